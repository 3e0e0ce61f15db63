/- Contracts and plain mathematics of earlier stages: Pwr, Pput, Pdig, Pnum, Ptext, Pread, Pclone, Pclone. -/
import Derived.Test.YtfmhfngilimhjaaRows
import Derived.Test.YtfmhfngilimhjaaKa
import Derived.Test.YtfmhfngilimhjaaKm
import Derived.ProofKit
import Derived.OpenShut
import Derived.Lib.Hide
import Derived.Deep.QuietTactic
import Derived.BigQuiet
import Derived.IntWalk
import Derived.Lib.UnsafeStr
import Derived.Lib.BufferWrite
import Derived.Laws.Closers25b
namespace Go.Proofs.Ytfmhfngilimhjaa.Pa
open Go.RowKit


/-- The program's writer lies at block b, its bytes at block F (if it has any), and it stands at s. -/
def Wr (w : World) (b : Nat) (F : Option Nat) (s : Pk.S) : Prop :=
  ∃ A c, Is w b 169 #[.int .i64 s.L, .slice A s.bs.length c, .int .i64 s.e] ∧ Row 5 w A c s.bs ∧ blk A = F ∧ s.Ok

/-- A writer has moved from w to w': only its own blocks have turned; its bytes lie where they lay, or in a new block. -/
def Mv (w w' : World) (b : Nat) (F F' : Option Nat) : Prop := Fr (fun k => k = b ∨ F = some k) w w' ∧ (F' = F ∨ ∃ g, F' = some g ∧ w.heap.size ≤ g)
theorem Mv.refl (w : World) (b : Nat) (F : Option Nat) : Mv w w b F F := ⟨Fr.refl _ _, .inl rfl⟩
theorem Mv.trans {w w1 w2 : World} {b : Nat} {F F1 F2 : Option Nat} (h : Mv w w1 b F F1) (k : Mv w1 w2 b F1 F2) : Mv w w2 b F F2 := by
  refine ⟨h.1.trans k.1 fun i hi hs => ?_, ?_⟩
  · rcases hs with rfl | hs
    · exact .inl rfl
    · rcases h.2 with e | ⟨g, e, hg⟩
      · exact .inr (e ▸ hs)
      · rw [e] at hs; injection hs with hs; omega
  · rcases k.2 with e | ⟨g, e, hg⟩
    · rw [e]; exact h.2
    · exact .inr ⟨g, e, Nat.le_trans h.1.size hg⟩
theorem Mv.after {w w1 w2 : World} {b : Nat} {F F1 : Option Nat} (h : Fr (fun _ => False) w w1) (k : Mv w1 w2 b F F1) : Mv w w2 b F F1 := by
  refine ⟨(h.mono fun _ _ e => e.elim).trans k.1 fun _ _ e => e, ?_⟩
  rcases k.2 with e | ⟨g, e, hg⟩
  · exact .inl e
  · exact .inr ⟨g, e, Nat.le_trans h.size hg⟩
theorem Wr.fr {w w1 : World} {b : Nat} {F : Option Nat} {s : Pk.S} {S : Nat → Prop} (h : Wr w b F s) (f : Fr S w w1) (hb : ¬ S b) (hF : ∀ k, F = some k → ¬ S k) : Wr w1 b F s := by
  obtain ⟨A, c, h1, h2, h3, h4⟩ := h
  exact ⟨A, c, h1.fr f hb, h2.fr f (fun k hk => hF k (h3 ▸ hk)), h3, h4⟩
theorem Wr.ok {w : World} {b : Nat} {F : Option Nat} {s : Pk.S} (h : Wr w b F s) : s.Ok := by obtain ⟨A, c, h1, h2, h3, h4⟩ := h; exact h4
theorem Wr.lt {w : World} {b : Nat} {F : Option Nat} {s : Pk.S} (h : Wr w b F s) : b < w.heap.size := by obtain ⟨A, c, h1, h2, h3, h4⟩ := h; exact h1.lt
theorem Wr.ltF {w : World} {b : Nat} {F : Option Nat} {s : Pk.S} (h : Wr w b F s) : ∀ k, F = some k → k < w.heap.size := by obtain ⟨A, c, h1, h2, h3, h4⟩ := h; exact fun k hk => h2.lt k (h3.trans hk)

theorem new_any (n : Int) (w : World) :
    Calls Try.prog 66 #[.int .i64 n] w fun e w' => e = .returned (.pointer (some ⟨w.heap.size, 0, none⟩)) ∧ w' = w.alloc (.cells #[.int .i64 (max n 0), .slice none 0 0, .int .i64 0] 169) := by
  go_enter Try.func66, Try.ntmps66
  go_wp2
  all_goals go_ret
  · rw [show max n 0 = 0 from by omega]; exact ⟨rfl, rfl⟩
  · rw [show max n 0 = n from by omega]; exact ⟨rfl, rfl⟩
theorem new_wr (n : Int) (w : World) (hn : n ≤ 9223372036854775807) : Wr (w.alloc (.cells #[.int .i64 (max n 0), .slice none 0 0, .int .i64 0] 169)) w.heap.size none ⟨max n 0, [], 0⟩ :=
  ⟨none, 0, Is.new _ _ _, Row.nil _ _, rfl, by simp only [Pk.S.Ok, List.length_nil]; omega⟩

theorem fail_any {w : World} {b : Nat} {F : Option Nat} {s : Pk.S} (h : Wr w b F s) (x : Int) :
    Calls Try.prog 100 #[.pointer (some ⟨b, 0, none⟩), .int .i64 x] w fun e w' => e = .returned (.tuple #[]) ∧ Wr w' b F (s.fail x) ∧ Mv w w' b F F := by
  obtain ⟨A, c, h1, h2, h3, h4⟩ := h
  have c1 : w.cell? ⟨b, 2, none⟩ = some (.int .i64 s.e) := (h1.cell 2).trans rfl
  have f1 : w.frozen? ⟨b, 2, none⟩ = false := h1.frozen 2
  by_cases he : s.e = 0
  · have hb : (s.e == 0) = true := by simp [he]
    have He := Lib.hid he
    clear he
    go_enter Try.func100, Try.ntmps100
    go_wp2
    go_end0
    have fr : Fr (fun k => k = b ∨ F = some k) w (w.setCell ⟨b, 2, none⟩ (.int .i64 x)) := (Fr.refl _ w).setCell (p := ⟨b, 2, none⟩) (.inl (.inl rfl)) _
    refine ⟨rfl, ⟨A, c, ?_, ?_, h3, Pk.S.fail_ok h4 x⟩, fr, .inl rfl⟩
    · simp only [Pk.S.fail, He.out, if_true]
      exact h1.set 2 _
    · rw [Pk.S.fail_bs]
      have hne := h2.ne h1 (by decide)
      exact h2.fr (S := fun k => k = b) ((Fr.refl (fun k => k = b) w).setCell (p := ⟨b, 2, none⟩) (.inl rfl) _) (fun k hk e => hne (e ▸ hk))
  · have hb : (s.e == 0) = false := by simpa using he
    have He := Lib.hid he
    clear he
    go_enter Try.func100, Try.ntmps100
    go_wp2
    go_end0
    rw [Pk.S.fail_bad He.out]
    exact ⟨rfl, ⟨A, c, h1, h2, h3, h4⟩, Mv.refl _ _ _⟩

theorem conv_text {w : World} {A : Option Addr} {c : Nat} {bs : List UInt8} (h : Row 5 w A c bs) : (convert 151 9 (.slice A bs.length c)).run Try.prog w = .ok (.string ⟨bs.toArray⟩) w :=
  h.text Try.underlying151 Try.underlying5 Try.underlying9

theorem done_any {w : World} {b : Nat} {F : Option Nat} {s : Pk.S} (h : Wr w b F s) :
    Calls Try.prog 69 #[.pointer (some ⟨b, 0, none⟩)] w fun e w' => e = .returned (.tuple #[.string ⟨s.done.1.toArray⟩, .int .i64 s.done.2]) ∧ ∃ n, w' = w.drewN n := by
  obtain ⟨A, c, h1, h2, h3, h4⟩ := h
  have c1 : w.cell? ⟨b, 1, none⟩ = some (.slice A s.bs.length c) := (h1.cell 1).trans rfl
  have c2 : w.cell? ⟨b, 2, none⟩ = some (.int .i64 s.e) := (h1.cell 2).trans rfl
  have hcv := conv_text h2
  by_cases he : s.e = 0
  · have hb : (s.e != 0) = false := by simp [he]
    have hd : s.done = (s.bs, 0) := by simp [Pk.S.done, he]
    rw [hd]
    clear he hd
    go_enter Try.func69, Try.ntmps69
    go_wp2
    go_ret2
    exact ⟨rfl, 0, rfl⟩
  · have hb : (s.e != 0) = true := by simpa using he
    have hd : s.done = ([], s.e) := by simp [Pk.S.done, he]
    rw [hd]
    clear he hd
    go_enter Try.func69, Try.ntmps69
    go_wp2
    go_quiet (fail)
    go_wp2
    go_ret2
    exact ⟨rfl, _, rfl⟩
end Go.Proofs.Ytfmhfngilimhjaa.Pa

namespace Go.Proofs.Ytfmhfngilimhjaa.Pa
open Go.RowKit


theorem Try.infoB : (Try.prog.info? 5).map (fun i => (i.zero, i.size, i.bytes)) = some (some (.int .u8 0), 1, 1) := by kernel_rfl

theorem row_form {e : TypeId} {w : World} {v : Value} {n : Nat} {xs : List Value} (h : w.ownsRow 0 e 1 v n xs) : ∃ A c, v = .slice A n c := by
  rcases h.2 with ⟨hv, h0⟩ | ⟨g, cap, cur, hv, _⟩
  · exact ⟨none, 0, by rw [hv, h0]⟩
  · exact ⟨_, _, hv⟩

set_option maxHeartbeats 400000 in
theorem add_yes {w : World} {b : Nat} {F : Option Nat} {s : Pk.S} (h : Wr w b F s) (a : Addr) (c' : Nat) (t : List UInt8) (hr : ∀ j u, (t.map B)[j]? = some u → w.cell? (a.add j) = some u) (hfit : (t.length : Int) ≤ s.L - s.bs.length) (hbd : s.bs.length + t.length ≤ 140737488355328) :
    Calls Try.prog 115 #[.pointer (some ⟨b, 0, none⟩), .slice (some a) t.length c'] w fun e w' => e = .returned (.bool true) ∧ ∃ F', Wr w' b F' { s with bs := s.bs ++ t } ∧ Mv w w' b F F' := by
  obtain ⟨A, c, h1, h2, h3, h4⟩ := h
  have c0 : w.cell? ⟨b, 0, none⟩ = some (.int .i64 s.L) := (h1.cell 0).trans rfl
  have c1 : w.cell? ⟨b, 1, none⟩ = some (.slice A s.bs.length c) := (h1.cell 1).trans rfl
  have f1 : w.frozen? ⟨b, 1, none⟩ = false := h1.frozen 1
  obtain ⟨hL0, hL1, hL2⟩ := id h4
  obtain ⟨i0, hi, hz0, hz1, hz2⟩ := info_parts Try.infoB
  have hsub : IntKind.i64.wrap (s.L - (s.bs.length : Int)) = s.L - (s.bs.length : Int) := IntWalk.i64_in _ (by omega)
  have hd : decide (s.L - (s.bs.length : Int) < (t.length : Int)) = false := by simp; omega
  go_enter Try.func115, Try.ntmps115
  go_wp2
  go_quiet (fail)
  go_wp2_with (at_builtin; refine wpList_append_own_at _ rfl (.tmp 22) (.tmp 23) 151 rfl 0 5 i0 (.int .u8 0) 1 1 Try.underlying151 hi hz0 hz1 hz2 rfl (by decide) (.slice A s.bs.length c) s.bs.length (s.bs.map B) rfl h2 a t.length c' (t.map B) rfl (by simp) hr (by intro u hu; obtain ⟨x, _, rfl⟩ := List.mem_map.1 hu; rfl) (by unfold maxLen; omega) (by omega) (Nat.zero_le _) ?_)
  intro v' w1 hown hg _ hat
  obtain ⟨A', c1', rfl⟩ := row_form hown
  have hne : blk A ≠ some b := h2.ne h1 (by decide)
  have i1 : Is w1 b 169 #[.int .i64 s.L, .slice A s.bs.length c, .int .i64 s.e] := (hg.block b h1.lt (by rw [Row.own]; exact fun e => hne e.symm)).trans h1
  have k1 : w1.cell? ⟨b, 1, none⟩ = some (.slice A s.bs.length c) := (i1.cell 1).trans rfl
  have e1 : w1.frozen? ⟨b, 1, none⟩ = false := i1.frozen 1
  clear c0 c1 f1 hsub hd
  go_wp2
  go_ret
  rw [Row.own, Row.own] at hat
  have hF' : blk A' = F ∨ ∃ g, blk A' = some g ∧ w.heap.size ≤ g := by
    rcases hat with e | e
    · exact .inl (e.trans h3)
    · exact .inr ⟨_, e, Nat.le_refl _⟩
  have hne' : blk A' ≠ some b := by
    rcases hat with e | e
    · rw [e]; exact hne
    · rw [e]; intro hh; have hl := h1.lt; have hh' : w.heap.size = b := by simpa using hh
      omega
  have hg' : w.grownBy w1 F := by rw [Row.own, h3] at hg; exact ⟨hg.os, hg.tape, hg.output, hg.size, hg.block⟩
  have fr1 : Fr (fun k => k = b ∨ F = some k) w w1 := (Fr.refl _ w).grown hg' (fun k hk => .inl (.inr hk))
  have fr2 := fr1.setCell (p := ⟨b, 1, none⟩) (.inl (.inl rfl)) (.slice A' (s.bs.length + t.length) c1')
  refine ⟨rfl, blk A', ⟨A', c1', ?_, ?_, rfl, ?_⟩, fr2, hF'⟩
  · have := i1.set 1 (.slice A' (s.bs.length + t.length) c1')
    simpa using this
  · have hrow : Row 5 w1 A' c1' (s.bs ++ t) := by
      unfold Row; simpa using hown
    exact hrow.fr (S := fun k => k = b) ((Fr.refl (fun k => k = b) w1).setCell (p := ⟨b, 1, none⟩) (.inl rfl) _) (fun k hk e => hne' (e ▸ hk))
  · have := Pk.S.put_ok h4 t
    simp only [Pk.S.Ok, List.length_append] at *
    omega

theorem add_no {w : World} {b : Nat} {F : Option Nat} {s : Pk.S} (h : Wr w b F s) (A' : Option Addr) (c' n : Nat) (hfit : s.L - s.bs.length < (n : Int)) :
    Calls Try.prog 115 #[.pointer (some ⟨b, 0, none⟩), .slice A' n c'] w fun e w' => e = .returned (.bool false) ∧ ∃ k, w' = w.drewN k := by
  obtain ⟨A, c, h1, h2, h3, h4⟩ := h
  have c0 : w.cell? ⟨b, 0, none⟩ = some (.int .i64 s.L) := (h1.cell 0).trans rfl
  have c1 : w.cell? ⟨b, 1, none⟩ = some (.slice A s.bs.length c) := (h1.cell 1).trans rfl
  obtain ⟨hL0, hL1, hL2⟩ := id h4
  have hsub : IntKind.i64.wrap (s.L - (s.bs.length : Int)) = s.L - (s.bs.length : Int) := IntWalk.i64_in _ (by omega)
  have hd : decide (s.L - (s.bs.length : Int) < (n : Int)) = true := by simp; omega
  go_enter Try.func115, Try.ntmps115
  go_wp2
  go_quiet (fail)
  go_wp2
  go_ret
  exact ⟨rfl, _, rfl⟩

theorem Wr.drewN {w : World} {b : Nat} {F : Option Nat} {s : Pk.S} (h : Wr w b F s) (n : Nat) : Wr (w.drewN n) b F s := h
set_option maxHeartbeats 400000 in
theorem put_any {w : World} {b : Nat} {F : Option Nat} {s : Pk.S} (h : Wr w b F s) (a : Addr) (c' : Nat) (t : List UInt8) (hr : ∀ j u, (t.map B)[j]? = some u → w.cell? (a.add j) = some u) (hbd : s.L ≤ 140737488355328 ∨ s.bs.length + t.length ≤ 140737488355328) :
    Calls Try.prog 101 #[.pointer (some ⟨b, 0, none⟩), .slice (some a) t.length c'] w fun e w' => e = .returned (.tuple #[]) ∧ ∃ F', Wr w' b F' (s.put t) ∧ Mv w w' b F F' := by
  obtain ⟨A, c, h1, h2, h3, h4⟩ := id h
  have c2 : w.cell? ⟨b, 2, none⟩ = some (.int .i64 s.e) := (h1.cell 2).trans rfl
  by_cases he : s.e = 0
  · have hb : (s.e == 0) = true := by simp [he]
    by_cases hfit : (t.length : Int) ≤ s.L - s.bs.length
    · have hp : s.put t = { s with bs := s.bs ++ t } := by simp [Pk.S.put, he, hfit]
      rw [hp]
      have K := add_yes h a c' t hr hfit (by have := h4.2.2; omega)
      clear he hp hr
      go_enter Try.func101, Try.ntmps101
      go_wp2_with (go_at_call 115; refine K.mono ?_; rintro e w1 ⟨rfl, F', hw1, hm1⟩)
      go_end0
      exact ⟨rfl, F', hw1, hm1⟩
    · have hp : s.put t = s.fail 2 := by simp [Pk.S.put, Pk.S.fail, he, hfit]
      rw [hp]
      have K := add_no h (some a) c' t.length (by omega)
      have K2 := fun n => fail_any (h.drewN n) 2
      clear he hp hr
      go_enter Try.func101, Try.ntmps101
      go_wp2_with (first | (go_at_call 115; refine K.mono ?_; rintro e w1 ⟨rfl, n1, rfl⟩) | (go_at_call 100; refine (K2 _).mono ?_; rintro e w2 ⟨rfl, hw2, hm2⟩))
      go_end0
      exact ⟨rfl, F, hw2, Mv.after ((Fr.refl _ w).drewN _) hm2⟩
  · have hb : (s.e == 0) = false := by simpa using he
    rw [Pk.S.put_bad he]
    clear he
    go_enter Try.func101, Try.ntmps101
    go_wp2
    go_end0
    exact ⟨rfl, F, h, Mv.refl _ _ _⟩
end Go.Proofs.Ytfmhfngilimhjaa.Pa

namespace Go.Proofs.Ytfmhfngilimhjaa.Pa
open Go.RowKit


theorem fits1 (n : Int) (w : World) :
    Calls Try.prog 99 #[.int .i64 1, .int .i64 n] w fun e w' => e = .returned (.bool (Pk.fits 1 n)) ∧ w = w' := by
  have h1 : 0 ≤ n → Pk.fits 1 n = decide (n < 256) := fun h => by simp [Pk.fits, h]
  have h2 : n < 0 → Pk.fits 1 n = false := fun h => by simp [Pk.fits]; omega
  have H1 := Lib.hid h1
  have H2 := Lib.hid h2
  clear h1 h2
  go_enter Try.func99, Try.ntmps99
  go_wp2
  all_goals go_ret
  all_goals refine ⟨?_, rfl⟩
  · rw [H1.out (by assumption)]; rfl
  · rw [H2.out (by assumption)]; rfl
theorem fits2 (n : Int) (w : World) :
    Calls Try.prog 99 #[.int .i64 2, .int .i64 n] w fun e w' => e = .returned (.bool (Pk.fits 2 n)) ∧ w = w' := by
  have h1 : 0 ≤ n → Pk.fits 2 n = decide (n < 65536) := fun h => by simp [Pk.fits, h]
  have h2 : n < 0 → Pk.fits 2 n = false := fun h => by simp [Pk.fits]; omega
  have H1 := Lib.hid h1
  have H2 := Lib.hid h2
  clear h1 h2
  go_enter Try.func99, Try.ntmps99
  go_wp2
  all_goals go_ret
  all_goals refine ⟨?_, rfl⟩
  · rw [H1.out (by assumption)]; rfl
  · rw [H2.out (by assumption)]; rfl
theorem fits4 (n : Int) (w : World) :
    Calls Try.prog 99 #[.int .i64 4, .int .i64 n] w fun e w' => e = .returned (.bool (Pk.fits 4 n)) ∧ w = w' := by
  have h1 : 0 ≤ n → Pk.fits 4 n = decide (n < 4294967296) := fun h => by simp [Pk.fits, h]
  have h2 : n < 0 → Pk.fits 4 n = false := fun h => by simp [Pk.fits]; omega
  have H1 := Lib.hid h1
  have H2 := Lib.hid h2
  clear h1 h2
  go_enter Try.func99, Try.ntmps99
  go_wp2
  all_goals go_ret
  all_goals refine ⟨?_, rfl⟩
  · rw [H1.out (by assumption)]; rfl
  · rw [H2.out (by assumption)]; rfl
theorem mk1 (w : World) : (Instr.makeSlice 151 (.int .i64 1) (.int .i64 1)).run Try.prog w = .ok (.slice (some ⟨w.heap.size, 0, none⟩) 1 1) (w.alloc (.cells #[.int .u8 0] 5)) := by kernel_rfl
theorem mk2 (w : World) : (Instr.makeSlice 151 (.int .i64 2) (.int .i64 2)).run Try.prog w = .ok (.slice (some ⟨w.heap.size, 0, none⟩) 2 2) (w.alloc (.cells #[.int .u8 0, .int .u8 0] 5)) := by kernel_rfl
theorem mk4 (w : World) : (Instr.makeSlice 151 (.int .i64 4) (.int .i64 4)).run Try.prog w = .ok (.slice (some ⟨w.heap.size, 0, none⟩) 4 4) (w.alloc (.cells #[.int .u8 0, .int .u8 0, .int .u8 0, .int .u8 0] 5)) := by kernel_rfl
theorem dig_cell (width : Nat) (n : Int) (i : Nat) (m : Int) (h : m = n / 2 ^ (8 * (width - 1 - i)) % 256) : B (Pk.dig width n i) = .int .u8 m := by
  unfold B Pk.dig
  have h0 : 0 ≤ n / 2 ^ (8 * (width - 1 - i)) % 256 := Int.emod_nonneg _ (by decide)
  have h1 : n / 2 ^ (8 * (width - 1 - i)) % 256 < 256 := Int.emod_lt_of_pos _ (by decide)
  congr 1
  rw [h, UInt8.toNat_ofNat']
  omega
theorem digits1 (n : Int) (h0 : 0 ≤ n) (h1 : n < 256) (w : World) :
    Calls Try.prog 102 #[.int .i64 1, .int .i64 n] w fun e w' => e = .returned (.slice (some ⟨w.heap.size, 0, none⟩) 1 1) ∧ w' = w.alloc (.cells ((Pk.digits 1 n).map B).toArray 5) := by
  have k1 := mk1
  have hd : ((Pk.digits 1 n).map B).toArray = #[.int .u8 n] := by
    simp only [Pk.digits, List.range, List.range.loop, List.map]
    rw [dig_cell 1 n 0 n (by simp; omega)]
  rw [hd]
  clear hd
  go_enter Try.func102, Try.ntmps102
  go_wp2
  refine wp_loop_rounds 2 ?_
  iterate 2 (rw [rounds_succ]; go_wp2)
  go_ret
  exact ⟨rfl, rfl⟩
theorem digits2 (n : Int) (h0 : 0 ≤ n) (h1 : n < 65536) (w : World) :
    Calls Try.prog 102 #[.int .i64 2, .int .i64 n] w fun e w' => e = .returned (.slice (some ⟨w.heap.size, 0, none⟩) 2 2) ∧ w' = w.alloc (.cells ((Pk.digits 2 n).map B).toArray 5) := by
  have k1 := mk2
  have hd : ((Pk.digits 2 n).map B).toArray = #[.int .u8 (n / 256), .int .u8 (n % 256)] := by
    simp only [Pk.digits, List.range, List.range.loop, List.map]
    rw [dig_cell 2 n 0 (n / 256) (by simp; omega), dig_cell 2 n 1 (n % 256) (by simp)]
  rw [hd]
  clear hd
  go_enter Try.func102, Try.ntmps102
  go_wp2
  refine wp_loop_rounds 3 ?_
  iterate 3 (rw [rounds_succ]; go_wp2)
  go_ret
  exact ⟨rfl, rfl⟩
theorem digits4 (n : Int) (h0 : 0 ≤ n) (h1 : n < 4294967296) (w : World) :
    Calls Try.prog 102 #[.int .i64 4, .int .i64 n] w fun e w' => e = .returned (.slice (some ⟨w.heap.size, 0, none⟩) 4 4) ∧ w' = w.alloc (.cells ((Pk.digits 4 n).map B).toArray 5) := by
  have k1 := mk4
  have hd : ((Pk.digits 4 n).map B).toArray = #[.int .u8 (n / 16777216), .int .u8 (n / 65536 % 256), .int .u8 (n / 256 % 256), .int .u8 (n % 256)] := by
    simp only [Pk.digits, List.range, List.range.loop, List.map]
    rw [dig_cell 4 n 0 (n / 16777216) (by simp; omega), dig_cell 4 n 1 (n / 65536 % 256) (by simp), dig_cell 4 n 2 (n / 256 % 256) (by simp), dig_cell 4 n 3 (n % 256) (by simp)]
  rw [hd]
  clear hd
  go_enter Try.func102, Try.ntmps102
  go_wp2
  refine wp_loop_rounds 5 ?_
  iterate 5 (rw [rounds_succ]; go_wp2)
  go_ret
  exact ⟨rfl, rfl⟩
end Go.Proofs.Ytfmhfngilimhjaa.Pa

namespace Go.Proofs.Ytfmhfngilimhjaa.Pa
open Go.RowKit

/-- the widths of numbers -/
def Wid (width : Nat) : Prop := width = 1 ∨ width = 2 ∨ width = 4

theorem fits_yes {width : Nat} (hw : Wid width) {n : Int} (hf : Pk.fits width n = true) (w : World) :
    Calls Try.prog 99 #[.int .i64 (width : Int), .int .i64 n] w fun e w' => e = .returned (.bool true) ∧ w = w' := by
  rw [← hf]
  rcases hw with rfl | rfl | rfl
  · exact fits1 n w
  · exact fits2 n w
  · exact fits4 n w
theorem fits_no {width : Nat} (hw : Wid width) {n : Int} (hf : Pk.fits width n = false) (w : World) :
    Calls Try.prog 99 #[.int .i64 (width : Int), .int .i64 n] w fun e w' => e = .returned (.bool false) ∧ w = w' := by
  rw [← hf]
  rcases hw with rfl | rfl | rfl
  · exact fits1 n w
  · exact fits2 n w
  · exact fits4 n w
theorem digits_any {width : Nat} (hw : Wid width) {n : Int} (hf : Pk.fits width n = true) (w : World) :
    Calls Try.prog 102 #[.int .i64 (width : Int), .int .i64 n] w fun e w' => e = .returned (.slice (some ⟨w.heap.size, 0, none⟩) (Pk.digits width n).length (Pk.digits width n).length) ∧ w.alloc (.cells ((Pk.digits width n).map B).toArray 5) = w' := by
  rw [Pk.digits_length]
  unfold Pk.fits at hf
  simp only [Bool.and_eq_true, decide_eq_true_eq] at hf
  rcases hw with rfl | rfl | rfl
  · exact (digits1 n hf.1 (by have := hf.2; omega) w).mono fun _ _ ⟨h, k⟩ => ⟨h, k.symm⟩
  · exact (digits2 n hf.1 (by have := hf.2; omega) w).mono fun _ _ ⟨h, k⟩ => ⟨h, k.symm⟩
  · exact (digits4 n hf.1 (by have := hf.2; omega) w).mono fun _ _ ⟨h, k⟩ => ⟨h, k.symm⟩
/-- put, of the digits just laid -/
theorem put_digits {w : World} {b : Nat} {F : Option Nat} {s : Pk.S} (h : Wr w b F s) (t : List UInt8) (hbd : s.L ≤ 140737488355328 ∨ s.bs.length + t.length ≤ 140737488355328) :
    Calls Try.prog 101 #[.pointer (some ⟨b, 0, none⟩), .slice (some ⟨w.heap.size, 0, none⟩) t.length t.length] (w.alloc (.cells (t.map B).toArray 5)) fun e w' => e = .returned (.tuple #[]) ∧ ∃ F', Wr w' b F' (s.put t) ∧ Mv w w' b F F' := by
  have h' : Wr (w.alloc (.cells (t.map B).toArray 5)) b F s := h.fr ((Fr.refl (fun _ => False) w).alloc _) id (fun _ _ => id)
  refine (put_any h' _ t.length t (fun j u hu => ?_) hbd).mono fun e w' ⟨he, F', h1, h2⟩ => ⟨he, F', h1, Mv.after ((Fr.refl _ w).alloc _) h2⟩
  have e : (⟨w.heap.size, 0, none⟩ : Addr).add j = ⟨w.heap.size, j, none⟩ := by unfold Addr.add; split <;> simp_all
  rw [e, World.cell?_alloc_at _ _ _ _ rfl]
  simpa using hu

set_option maxHeartbeats 800000 in
theorem numbers_any {w : World} {b : Nat} {F : Option Nat} {s : Pk.S} (h : Wr w b F s) {width : Nat} (hw : Wid width) (A : Option Addr) (c : Nat) (l : List Int) (hl : Rd w A (l.map (Value.int .i64))) (hA : blk A ≠ some b) (hAF : ∀ k, F = some k → blk A ≠ some k)
    (hlen : l.length ≤ 140737488355328) (hbd : s.L ≤ 140737488355328 ∨ s.bs.length + width * l.length ≤ 140737488355328) :
    Calls Try.prog 90 #[.pointer (some ⟨b, 0, none⟩), .int .i64 (width : Int), .slice A l.length c] w fun e w' => e = .returned (.tuple #[]) ∧ ∃ F', Wr w' b F' (s.nums width l) ∧ Mv w w' b F F' := by
  rcases hn : l with _ | ⟨x, l'⟩
  · subst hn
    go_enter Try.func90, Try.ntmps90
    go_wp2
    refine wp_loop_rounds 1 ?_
    rw [rounds_succ]
    go_wp2
    go_end0
    exact ⟨rfl, F, h, Mv.refl _ _ _⟩
  · rw [← hn]
    obtain ⟨g, o, rfl, hg, hc⟩ := hl (by rw [hn]; simp)
    have hpos : 0 < l.length := by rw [hn]; simp
    clear hn hl x l'
    have hgb : g ≠ b := fun e => hA (by rw [e]; rfl)
    have hgF : F ≠ some g := fun e => hAF g e rfl
    go_enter Try.func90, Try.ntmps90
    go_wp2
    go_loopw [10] (fun i wr => ∃ k F', k ≤ l.length ∧ i = .int .i64 (k : Nat) ∧ Wr wr b F' (s.nums width (l.take k)) ∧ Mv w wr b F F') (fun i _ => l.length - (intOf i).toNat)
    case atStart => exact ⟨0, F, Nat.zero_le _, rfl, h, Mv.refl _ _ _⟩
    case round =>
      obtain ⟨k, F1, hk, rfl, hwr, hmv⟩ := hrel
      by_cases hlt : k < l.length
      · have hcell : wr.cell? ⟨g, o + k, none⟩ = some (.int .i64 l[k]) := by
          rw [hmv.1.cell (p := ⟨g, o + k, none⟩) hg (by rintro (e | e); exact hgb e; exact hgF e)]
          exact hc k _ (by rw [List.getElem?_map, List.getElem?_eq_getElem hlt]; rfl)
        have hsn : s.nums width (l.take (k + 1)) = (s.nums width (l.take k)).num width l[k] := by
          rw [List.take_succ_eq_append_getElem hlt, Pk.S.nums_append]; rfl
        have hrest : s.nums width l = ((s.nums width (l.take k)).num width l[k]).nums width (l.drop (k + 1)) := by
          rw [← hsn, ← Pk.S.nums_append, List.take_append_drop]
        have hL : (s.nums width (l.take k)).L = s.L := Pk.S.nums_L _ _ _
        have hbs : (s.nums width (l.take k)).bs.length ≤ s.bs.length + width * k := by
          have := (Pk.S.nums_len s width (l.take k)).2
          rwa [List.length_take, Nat.min_eq_left hk] at this
        have hsum : width * k + width ≤ width * l.length := by
          have := Nat.mul_le_mul_left width (show k + 1 ≤ l.length by omega)
          rwa [Nat.mul_add, Nat.mul_one] at this
        have hbd' : (s.nums width (l.take k)).L ≤ 140737488355328 ∨ (s.nums width (l.take k)).bs.length + width ≤ 140737488355328 := by
          rw [hL]; omega
        generalize s.nums width (l.take k) = sk at *
        have HS := Lib.hid hsn
        have HR := Lib.hid hrest
        clear hsn hrest hL hbs hsum hbd
        obtain ⟨x, hx⟩ : ∃ x, x = l[k] := ⟨_, rfl⟩
        rw [← hx] at hcell HS HR
        clear hx
        by_cases hf : Pk.fits width x = true
        · have K1 := fun W => fits_yes hw hf W
          have K2 := fun W => digits_any hw hf W
          have K3 := put_digits hwr (Pk.digits width x) (by rw [Pk.digits_length]; exact hbd')
          have hnum : sk.num width x = sk.put (Pk.digits width x) := by simp [Pk.S.num, hf]
          rw [← hnum] at K3
          clear hf hnum hbd'
          go_wp2_with (first | (go_at_call 99; refine (K1 _).mono ?_; rintro e w1 ⟨rfl, rfl⟩) | (go_at_call 102; refine (K2 _).mono ?_; rintro e w1 ⟨rfl, rfl⟩) | (go_at_call 101; refine K3.mono ?_; rintro e w2 ⟨rfl, F2, hw2, hm2⟩))
          go_roundw
          case rel => exact ⟨k + 1, F2, by omega, by go_num, by rw [HS.out]; exact hw2, hmv.trans hm2⟩
          case measure => simp [intOf]; omega
        · have hf' : Pk.fits width x = false := by simpa using hf
          have K1 := fun W => fits_no hw hf' W
          have K3 := fail_any hwr 32
          have hnum : s.nums width l = sk.fail 32 := by
            rw [HR.out]
            have : sk.num width x = sk.fail 32 := by simp [Pk.S.num, hf']
            rw [this]
            by_cases he : sk.e = 0
            · exact Pk.S.nums_bad (Pk.S.fail_e (by decide)) _ _
            · rw [Pk.S.fail_bad he]; exact Pk.S.nums_bad he _ _
          have HN := Lib.hid hnum
          clear hf hf' hnum hbd'
          go_wp2_with (first | (go_at_call 99; refine (K1 _).mono ?_; rintro e w1 ⟨rfl, rfl⟩) | (go_at_call 100; refine K3.mono ?_; rintro e w2 ⟨rfl, hw2, hm2⟩))
          refine bodyPost_ret (results_none rfl _ _ _) rfl ?_
          exact ⟨rfl, F1, by rw [HN.out]; exact hw2, hmv.trans hm2⟩
      · have hk' : k = l.length := by omega
        have HW : Wr wr b F1 (s.nums width l) := by
          have := hwr; rwa [hk', List.take_of_length_le (Nat.le_refl _)] at this
        clear hwr hk'
        go_wp2
        go_end0
        exact ⟨rfl, F1, HW, hmv⟩
end Go.Proofs.Ytfmhfngilimhjaa.Pa

namespace Go.Proofs.Ytfmhfngilimhjaa.Pa
open Go.RowKit

theorem byte_any {w : World} {b : Nat} {F : Option Nat} {s : Pk.S} (h : Wr w b F s) (A : Option Addr) (c : Nat) (l : List Int) (hl : Rd w A (l.map (Value.int .i64))) (hA : blk A ≠ some b) (hAF : ∀ k, F = some k → blk A ≠ some k)
    (hlen : l.length ≤ 140737488355328) (hbd : s.L ≤ 140737488355328 ∨ s.bs.length + 1 * l.length ≤ 140737488355328) :
    Calls Try.prog 67 #[.pointer (some ⟨b, 0, none⟩), .slice A l.length c] w fun e w' => e = .returned (.tuple #[]) ∧ ∃ F', Wr w' b F' (s.nums 1 l) ∧ Mv w w' b F F' := by
  have K := numbers_any h (.inl rfl) A c l hl hA hAF hlen hbd
  clear hl hA hAF hbd
  go_enter Try.func67, Try.ntmps67
  go_wp2_with (go_at_call 90; refine K.mono ?_; rintro e w1 ⟨rfl, F', hw1, hm1⟩)
  go_end0
  exact ⟨rfl, F', hw1, hm1⟩
theorem long_any {w : World} {b : Nat} {F : Option Nat} {s : Pk.S} (h : Wr w b F s) (A : Option Addr) (c : Nat) (l : List Int) (hl : Rd w A (l.map (Value.int .i64))) (hA : blk A ≠ some b) (hAF : ∀ k, F = some k → blk A ≠ some k)
    (hlen : l.length ≤ 140737488355328) (hbd : s.L ≤ 140737488355328 ∨ s.bs.length + 4 * l.length ≤ 140737488355328) :
    Calls Try.prog 68 #[.pointer (some ⟨b, 0, none⟩), .slice A l.length c] w fun e w' => e = .returned (.tuple #[]) ∧ ∃ F', Wr w' b F' (s.nums 4 l) ∧ Mv w w' b F F' := by
  have K := numbers_any h (.inr (.inr rfl)) A c l hl hA hAF hlen hbd
  clear hl hA hAF hbd
  go_enter Try.func68, Try.ntmps68
  go_wp2_with (go_at_call 90; refine K.mono ?_; rintro e w1 ⟨rfl, F', hw1, hm1⟩)
  go_end0
  exact ⟨rfl, F', hw1, hm1⟩
end Go.Proofs.Ytfmhfngilimhjaa.Pa

namespace Go.Proofs.Ytfmhfngilimhjaa.Pa
open Go.RowKit

/-- The program's reader lies at block b, and stands at r. -/
def Re (w : World) (b : Nat) (s : ByteArray) (bad : Bool) : Prop := Is w b 193 #[.string s, .bool bad]

theorem read_any (s : ByteArray) (w : World) :
    Calls Try.prog 104 #[.string s] w fun e w' => e = .returned (.pointer (some ⟨w.heap.size, 0, none⟩)) ∧ w' = w.alloc (.cells #[.string s, .bool false] 193) := by
  go_enter Try.func104, Try.ntmps104
  go_wp2
  go_ret
  exact ⟨rfl, rfl⟩

theorem take_yes {w : World} {b : Nat} {s : ByteArray} (h : Re w b s false) (n : Nat) (hn : n ≤ s.size) :
    Calls Try.prog 124 #[.pointer (some ⟨b, 0, none⟩), .int .i64 (n : Int)] w fun e w' => e = .returned (.string (s.extract 0 n)) ∧ Re w' b (s.extract n s.size) false ∧ Fr (fun k => k = b) w w' := by
  have c0 : w.cell? ⟨b, 0, none⟩ = some (.string s) := (h.cell 0).trans rfl
  have c1 : w.cell? ⟨b, 1, none⟩ = some (.bool false) := (h.cell 1).trans rfl
  have f0 : w.frozen? ⟨b, 0, none⟩ = false := h.frozen 0
  have f1 : w.frozen? ⟨b, 1, none⟩ = false := h.frozen 1
  go_enter Try.func124, Try.ntmps124
  go_wp2
  go_ret
  exact ⟨rfl, h.set 0 _, (Fr.refl (fun k => k = b) w).setCell (p := ⟨b, 0, none⟩) (.inl rfl) _⟩
theorem take_no {w : World} {b : Nat} {s : ByteArray} (h : Re w b s false) (n : Nat) (hn : s.size < n) :
    Calls Try.prog 124 #[.pointer (some ⟨b, 0, none⟩), .int .i64 (n : Int)] w fun e w' => e = .returned (.string ⟨#[]⟩) ∧ Re w' b s true ∧ Fr (fun k => k = b) w w' := by
  have c0 : w.cell? ⟨b, 0, none⟩ = some (.string s) := (h.cell 0).trans rfl
  have c1 : w.cell? ⟨b, 1, none⟩ = some (.bool false) := (h.cell 1).trans rfl
  have f0 : w.frozen? ⟨b, 0, none⟩ = false := h.frozen 0
  have f1 : w.frozen? ⟨b, 1, none⟩ = false := h.frozen 1
  go_enter Try.func124, Try.ntmps124
  go_wp2
  go_ret
  exact ⟨rfl, h.set 1 _, (Fr.refl (fun k => k = b) w).setCell (p := ⟨b, 1, none⟩) (.inl rfl) _⟩
theorem take_bad {w : World} {b : Nat} {s : ByteArray} (h : Re w b s true) (n : Nat) :
    Calls Try.prog 124 #[.pointer (some ⟨b, 0, none⟩), .int .i64 (n : Int)] w fun e w' => e = .returned (.string ⟨#[]⟩) ∧ Re w' b s true ∧ Fr (fun k => k = b) w w' := by
  have c1 : w.cell? ⟨b, 1, none⟩ = some (.bool true) := (h.cell 1).trans rfl
  have f1 : w.frozen? ⟨b, 1, none⟩ = false := h.frozen 1
  go_enter Try.func124, Try.ntmps124
  go_wp2
  go_ret
  exact ⟨rfl, h.set 1 _, (Fr.refl (fun k => k = b) w).setCell (p := ⟨b, 1, none⟩) (.inl rfl) _⟩

/-- A reader as plain data, its rest as a text: what a taking of n bytes gives, leaves, and whether it fell short. -/
structure Rs where
  s : ByteArray
  bad : Bool
namespace Rs
def no (r : Rs) (n : Nat) : Bool := r.bad || decide (r.s.size < n)
def tk (r : Rs) (n : Nat) : ByteArray := if r.no n = true then ⟨#[]⟩ else r.s.extract 0 n
def aft (r : Rs) (n : Nat) : Rs := if r.no n = true then ⟨r.s, true⟩ else ⟨r.s.extract n r.s.size, false⟩
end Rs
theorem take_any {w : World} {b : Nat} {r : Rs} (h : Re w b r.s r.bad) (n : Nat) :
    Calls Try.prog 124 #[.pointer (some ⟨b, 0, none⟩), .int .i64 (n : Int)] w fun e w' => e = .returned (.string (r.tk n)) ∧ Re w' b (r.aft n).s (r.aft n).bad ∧ Fr (fun k => k = b) w w' := by
  obtain ⟨s, bad⟩ := r
  simp only at h
  cases bad with
  | true =>
    have e1 : (Rs.mk s true).tk n = ⟨#[]⟩ := by simp [Rs.tk, Rs.no]
    have e2 : (Rs.mk s true).aft n = ⟨s, true⟩ := by simp [Rs.aft, Rs.no]
    rw [e1, e2]
    exact take_bad h n
  | false =>
    by_cases hn : n ≤ s.size
    · have e1 : (Rs.mk s false).tk n = s.extract 0 n := by simp [Rs.tk, Rs.no, Nat.not_lt.2 hn]
      have e2 : (Rs.mk s false).aft n = ⟨s.extract n s.size, false⟩ := by simp [Rs.aft, Rs.no, Nat.not_lt.2 hn]
      rw [e1, e2]
      exact take_yes h n hn
    · have e1 : (Rs.mk s false).tk n = ⟨#[]⟩ := by simp [Rs.tk, Rs.no, show s.size < n by omega]
      have e2 : (Rs.mk s false).aft n = ⟨s, true⟩ := by simp [Rs.aft, Rs.no, show s.size < n by omega]
      rw [e1, e2]
      exact take_no h n (by omega)

/-- the number that bytes tell, the greatest first -/
def val (l : List UInt8) : Int := l.foldl (fun n b => n * 256 + (b.toNat : Int)) 0
theorem val_snoc (l : List UInt8) (b : UInt8) : val (l ++ [b]) = val l * 256 + (b.toNat : Int) := by simp [val, List.foldl_append]
theorem val_take_bd (l : List UInt8) (k : Nat) (hk : k ≤ l.length) : 0 ≤ val (l.take k) ∧ val (l.take k) < 256 ^ k := by
  induction k with
  | zero => simp [val]
  | succ k ih =>
    have h := ih (by omega)
    have hb : (l[k]'(by omega)).toNat < 256 := UInt8.toNat_lt _
    rw [List.take_succ_eq_append_getElem (by omega), val_snoc, Int.pow_succ]
    omega
theorem or_join (a : Int) (b : UInt8) (h0 : 0 ≤ a) (h1 : a < 16777216) : bits .or .i64 (a * 256) (b.toNat : Int) = a * 256 + (b.toNat : Int) := by
  have hb : b.toNat < 256 := UInt8.toNat_lt b
  exact bits_join .i64 62 (by decide) (fun n h h' => by rw [IntKind.wrap_i64]; omega) 8 _ _ (by omega) (by omega) (by omega) (by omega) (by omega) (by omega)
/-- what '[]byte(t)' lays, read byte by byte -/
theorem bytesRow_cell {w : World} {g : Nat} {t : ByteArray} {cap : Nat} {e : TypeId} {fr : Nat × Nat} (h : w.heap[g]? = some (.cells (bytesRow t cap) e fr)) (k : Nat) (hk : k < (bytesOf t).length) :
    w.cell? ⟨g, k, none⟩ = some (.int .u8 ((bytesOf t)[k].toNat : Int)) := by
  rw [cell_of_row w g k _ e fr h]
  have hs : k < t.data.size := by rw [bytesOf_length] at hk; exact hk
  have hs' : k < t.size := hs
  simp [bytesRow, bytesOf, Array.getElem?_append, hs']

set_option maxHeartbeats 800000 in
theorem number_any {w : World} {b : Nat} {r : Rs} (h : Re w b r.s r.bad) (n : Nat) (hn : n ≤ 4) :
    Calls Try.prog 118 #[.pointer (some ⟨b, 0, none⟩), .int .i64 (n : Int)] w fun e w' => e = .returned (.int .i64 (val (bytesOf (r.tk n)))) ∧ Re w' b (r.aft n).s (r.aft n).bad ∧ Fr (fun k => k = b) w w' := by
  have K := take_any h n
  have hlen : (bytesOf (r.tk n)).length ≤ 4 := by
    rw [bytesOf_length]; unfold Rs.tk; split
    · simp [ByteArray.size]
    · simp [ByteArray.size_extract]; omega
  have hsz := bytesOf_length (r.tk n)
  generalize r.tk n = t at *
  have hcv := fun W : World => run_bytes_of_string (P := Try.prog) W 9 151 5 t Try.underlying9 Try.underlying151 Try.underlying5
  have HZ := Lib.hid hsz
  clear hsz
  go_enter Try.func118, Try.ntmps118
  go_wp2_with (go_at_call 124; refine K.mono ?_; rintro e w1 ⟨rfl, hw1, hf1⟩)
  have hb2 : (w1.alloc (.cells (bytesRow t (grownCap w1 t.size 0 5)) 5 ((bytesRow t (grownCap w1 t.size 0 5)).size, (bytesRow t (grownCap w1 t.size 0 5)).size + 1))).drew.heap[w1.heap.size]? = some (.cells (bytesRow t (grownCap w1 t.size 0 5)) 5 ((bytesRow t (grownCap w1 t.size 0 5)).size, (bytesRow t (grownCap w1 t.size 0 5)).size + 1)) := heap_alloc_new w1 _
  have hcl := bytesRow_cell hb2
  have hf2 : Fr (fun k => k = b) w (w1.alloc (.cells (bytesRow t (grownCap w1 t.size 0 5)) 5 ((bytesRow t (grownCap w1 t.size 0 5)).size, (bytesRow t (grownCap w1 t.size 0 5)).size + 1))).drew := (hf1.alloc _).drew
  have hw2 : Re (w1.alloc (.cells (bytesRow t (grownCap w1 t.size 0 5)) 5 ((bytesRow t (grownCap w1 t.size 0 5)).size, (bytesRow t (grownCap w1 t.size 0 5)).size + 1))).drew b (r.aft n).s (r.aft n).bad := Is.alloc hw1 _
  generalize (w1.alloc (.cells (bytesRow t (grownCap w1 t.size 0 5)) 5 ((bytesRow t (grownCap w1 t.size 0 5)).size, (bytesRow t (grownCap w1 t.size 0 5)).size + 1))).drew = w2 at *
  clear hb2 hw1 hf1 hcv K
  have hts : t.size ≤ 4 := by rw [← HZ.out]; exact hlen
  go_loop [13, 5] (fun i v => ∃ k, k ≤ t.size ∧ i = .int .i64 (k : Nat) ∧ v = .int .i64 (val ((bytesOf t).take k))) (fun i _ => t.size - (intOf i).toNat)
  case atStart => exact ⟨0, Nat.zero_le _, rfl, rfl⟩
  case round =>
    obtain ⟨k, hk, rfl, rfl⟩ := hrel
    by_cases hlt : k < t.size
    · have hlt' : k < (bytesOf t).length := by rw [HZ.out]; exact hlt
      have hcell := hcl k hlt'
      have hvb := val_take_bd (bytesOf t) k (by omega)
      have hv1 : val ((bytesOf t).take k) < 16777216 := by
        have hk3 : k = 0 ∨ k = 1 ∨ k = 2 ∨ k = 3 := by omega
        rcases hk3 with rfl | rfl | rfl | rfl <;> omega
      have hv0 := hvb.1
      have hor := or_join (val ((bytesOf t).take k)) (bytesOf t)[k] hv0 hv1
      have hsn : val ((bytesOf t).take (k + 1)) = val ((bytesOf t).take k) * 256 + ((bytesOf t)[k].toNat : Int) := by
        rw [List.take_succ_eq_append_getElem hlt', val_snoc]
      have HS := Lib.hid hsn
      have hby : ((bytesOf t)[k].toNat : Int) < 256 := by have := UInt8.toNat_lt (bytesOf t)[k]; omega
      clear hsn hcl hvb
      go_wp2
      go_round
      case rel => exact ⟨k + 1, by omega, by go_num, by rw [HS.out]⟩
      case measure => simp [intOf]; omega
    · have hk' : k = t.size := by omega
      have HV : Hid (val ((bytesOf t).take k) = val (bytesOf t)) := by
        show _ = _
        rw [List.take_of_length_le (by rw [HZ.out, hk']; exact Nat.le_refl _)]
      clear hcl hk'
      go_wp2
      go_ret
      exact ⟨by rw [← HV.out]; rfl, hw2, hf2⟩
end Go.Proofs.Ytfmhfngilimhjaa.Pa

namespace Go.Proofs.Ytfmhfngilimhjaa.Pa
open Go.RowKit

theorem Rs.tk_size (r : Rs) (n : Nat) : (r.tk n).size ≤ n := by
  unfold Rs.tk; split
  · simp [ByteArray.size]
  · simp [ByteArray.size_extract]; omega
theorem rbyte_any {w : World} {b : Nat} {r : Rs} (h : Re w b r.s r.bad) :
    Calls Try.prog 105 #[.pointer (some ⟨b, 0, none⟩)] w fun e w' => e = .returned (.int .i64 (val (bytesOf (r.tk 1)))) ∧ Re w' b (r.aft 1).s (r.aft 1).bad ∧ Fr (fun k => k = b) w w' := by
  have K := number_any h 1 (by omega)
  go_enter Try.func105, Try.ntmps105
  go_wp2_with (go_at_call 118; refine K.mono ?_; rintro e w1 ⟨rfl, hw1, hf1⟩)
  go_ret
  exact ⟨rfl, hw1, hf1⟩
theorem rword_any {w : World} {b : Nat} {r : Rs} (h : Re w b r.s r.bad) :
    Calls Try.prog 106 #[.pointer (some ⟨b, 0, none⟩)] w fun e w' => e = .returned (.int .i64 (val (bytesOf (r.tk 2)))) ∧ Re w' b (r.aft 2).s (r.aft 2).bad ∧ Fr (fun k => k = b) w w' := by
  have K := number_any h 2 (by omega)
  go_enter Try.func106, Try.ntmps106
  go_wp2_with (go_at_call 118; refine K.mono ?_; rintro e w1 ⟨rfl, hw1, hf1⟩)
  go_ret
  exact ⟨rfl, hw1, hf1⟩
theorem rlong_any {w : World} {b : Nat} {r : Rs} (h : Re w b r.s r.bad) :
    Calls Try.prog 107 #[.pointer (some ⟨b, 0, none⟩)] w fun e w' => e = .returned (.int .i64 (val (bytesOf (r.tk 4)))) ∧ Re w' b (r.aft 4).s (r.aft 4).bad ∧ Fr (fun k => k = b) w w' := by
  have K := number_any h 4 (by omega)
  go_enter Try.func107, Try.ntmps107
  go_wp2_with (go_at_call 118; refine K.mono ?_; rintro e w1 ⟨rfl, hw1, hf1⟩)
  go_ret
  exact ⟨rfl, hw1, hf1⟩

end Go.Proofs.Ytfmhfngilimhjaa.Pa

namespace Go.Proofs.Ytfmhfngilimhjaa.Pa
open Go.RowKit

/-- how a reading ended -/
def Rs.fin (r : Rs) : Int := if r.bad = true then 1 else if r.s.size = 0 then 0 else 3
end Go.Proofs.Ytfmhfngilimhjaa.Pa


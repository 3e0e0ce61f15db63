/- Contracts and plain mathematics of earlier stages: Pfacts, Pref, Pmnum, Pmread. -/
import Derived.Test.YtfmhfngilimhjaaKp
namespace Go.Proofs.Ytfmhfngilimhjaa.Pa
open Go.RowKit


namespace Rs
theorem tk_bytes (r : Rs) (n : Nat) : bytesOf (r.tk n) = if r.no n = true then [] else (bytesOf r.s).take n := by
  unfold tk; split
  · rfl
  · rw [bytesOf_extract]; rfl
theorem aft_bytes (r : Rs) (n : Nat) : bytesOf (r.aft n).s = if r.no n = true then bytesOf r.s else (bytesOf r.s).drop n := by
  unfold aft; split
  · rfl
  · rw [bytesOf_extract, size_of, List.take_length]
theorem aft_bad (r : Rs) (n : Nat) : (r.aft n).bad = r.no n := by
  unfold aft; split
  · rename_i h; rw [h]
  · rename_i h; simpa using h
/-- a reader of a text that begins with l -/
theorem read_tk {r : Rs} {l k : List UInt8} (hb : r.bad = false) (h : bytesOf r.s = l ++ k) : bytesOf (r.tk l.length) = l ∧ bytesOf (r.aft l.length).s = k ∧ (r.aft l.length).bad = false := by
  have hn : r.no l.length = false := by
    unfold no; rw [hb, size_of, h]; simp
  rw [tk_bytes, aft_bytes, aft_bad, hn, h]
  simp
theorem read_short {r : Rs} {n : Nat} (h : (bytesOf r.s).length < n) : bytesOf (r.tk n) = [] ∧ (r.aft n).s = r.s ∧ (r.aft n).bad = true := by
  have hn : r.no n = true := by
    unfold no; rw [size_of]; simp [h]
  rw [tk_bytes, aft_bad, hn]
  refine ⟨rfl, ?_, rfl⟩
  unfold aft; rw [if_pos hn]
theorem read_bad {r : Rs} {n : Nat} (h : r.bad = true) : bytesOf (r.tk n) = [] ∧ (r.aft n).s = r.s ∧ (r.aft n).bad = true := by
  have hn : r.no n = true := by unfold no; rw [h]; rfl
  rw [tk_bytes, aft_bad, hn]
  refine ⟨rfl, ?_, rfl⟩
  unfold aft; rw [if_pos hn]
end Rs

theorem dig_toNat (width : Nat) (n : Int) (i : Nat) : ((Pk.dig width n i).toNat : Int) = n / 2 ^ (8 * (width - 1 - i)) % 256 := by
  have := dig_cell width n i _ rfl
  unfold B at this
  injection this
theorem val_digits {width : Nat} (hw : Wid width) {n : Int} (hf : Pk.fits width n = true) : val (Pk.digits width n) = n := by
  unfold Pk.fits at hf
  simp only [Bool.and_eq_true, decide_eq_true_eq] at hf
  obtain ⟨h0, h1⟩ := hf
  unfold val Pk.digits
  rcases hw with rfl | rfl | rfl
  · simp only [List.range, List.range.loop, List.map, List.foldl, dig_toNat]
    simp at h1 ⊢; omega
  · simp only [List.range, List.range.loop, List.map, List.foldl, dig_toNat]
    simp at h1 ⊢; omega
  · simp only [List.range, List.range.loop, List.map, List.foldl, dig_toNat]
    simp at h1 ⊢; omega
theorem fits_of {width : Nat} {n : Int} (h0 : 0 ≤ n) (h1 : n < 2 ^ (8 * width)) : Pk.fits width n = true := by simp [Pk.fits, h0, h1]

/-- two writers (or a writer and another thing) lie apart -/
def Sep (b : Nat) (F : Option Nat) (b2 : Nat) (F2 : Option Nat) : Prop := b ≠ b2 ∧ F2 ≠ some b ∧ F ≠ some b2 ∧ ∀ k, F = some k → F2 ≠ some k
theorem Sep.symm {b b2 : Nat} {F F2 : Option Nat} (h : Sep b F b2 F2) : Sep b2 F2 b F := ⟨fun e => h.1 e.symm, h.2.2.1, h.2.1, fun k h2 h1 => h.2.2.2 k h1 h2⟩
theorem Sep.new {b b2 : Nat} {F : Option Nat} (hb : b ≠ b2) (hF : F ≠ some b2) : Sep b F b2 none := ⟨hb, (fun h => by cases h), hF, (fun _ _ h => by cases h)⟩
theorem Sep.mv {w w' : World} {b b2 : Nat} {F F2 F2' : Option Nat} (h : Sep b F b2 F2) (m : Mv w w' b2 F2 F2') (hb : b < w.heap.size) (hF : ∀ k, F = some k → k < w.heap.size) : Sep b F b2 F2' := by
  refine ⟨h.1, ?_, h.2.2.1, fun k hk => ?_⟩
  · rcases m.2 with e | ⟨g, e, hg⟩
    · rw [e]; exact h.2.1
    · rw [e]; intro e'; injection e' with e'; omega
  · rcases m.2 with e | ⟨g, e, hg⟩
    · rw [e]; exact h.2.2.2 k hk
    · rw [e]; intro e'; injection e' with e'; have := hF k hk; omega
theorem Wr.mv {w w' : World} {b b2 : Nat} {F F2 F2' : Option Nat} {s : Pk.S} (h : Wr w b F s) (m : Mv w w' b2 F2 F2') (hs : Sep b F b2 F2) : Wr w' b F s := by
  refine h.fr m.1 ?_ ?_
  · rintro (e | e)
    · exact hs.1 e
    · exact hs.2.1 e
  · rintro k hk (e | e)
    · exact hs.2.2.1 (e ▸ hk)
    · exact hs.2.2.2 k hk e
end Go.Proofs.Ytfmhfngilimhjaa.Pa

namespace Go.Proofs.Ytfmhfngilimhjaa.Pa
open Go.RowKit

/-- The document's writer lies at block b, its bytes at block F (if it has any), and it stands at s. -/
def Wm (w : World) (b : Nat) (F : Option Nat) (s : Pk.S) : Prop :=
  ∃ A c, Is w b 153 #[.slice A s.bs.length c, .int .i64 s.L, .int .i64 s.e] ∧ Row 5 w A c s.bs ∧ blk A = F ∧ s.Ok
theorem Wm.fr {w w1 : World} {b : Nat} {F : Option Nat} {s : Pk.S} {S : Nat → Prop} (h : Wm w b F s) (f : Fr S w w1) (hb : ¬ S b) (hF : ∀ k, F = some k → ¬ S k) : Wm w1 b F s := by
  obtain ⟨A, c, h1, h2, h3, h4⟩ := h
  exact ⟨A, c, h1.fr f hb, h2.fr f (fun k hk => hF k (h3 ▸ hk)), h3, h4⟩
theorem Wm.ok {w : World} {b : Nat} {F : Option Nat} {s : Pk.S} (h : Wm w b F s) : s.Ok := by obtain ⟨A, c, h1, h2, h3, h4⟩ := h; exact h4
theorem Wm.lt {w : World} {b : Nat} {F : Option Nat} {s : Pk.S} (h : Wm w b F s) : b < w.heap.size := by obtain ⟨A, c, h1, h2, h3, h4⟩ := h; exact h1.lt
theorem Wm.ltF {w : World} {b : Nat} {F : Option Nat} {s : Pk.S} (h : Wm w b F s) : ∀ k, F = some k → k < w.heap.size := by obtain ⟨A, c, h1, h2, h3, h4⟩ := h; exact fun k hk => h2.lt k (h3.trans hk)
theorem Wm.mv {w w' : World} {b b2 : Nat} {F F2 F2' : Option Nat} {s : Pk.S} (h : Wm w b F s) (m : Mv w w' b2 F2 F2') (hs : Sep b F b2 F2) : Wm w' b F s := by
  refine h.fr m.1 ?_ ?_
  · rintro (e | e)
    · exact hs.1 e
    · exact hs.2.1 e
  · rintro k hk (e | e)
    · exact hs.2.2.1 (e ▸ hk)
    · exact hs.2.2.2 k hk e
theorem Wm.drewN {w : World} {b : Nat} {F : Option Nat} {s : Pk.S} (h : Wm w b F s) (n : Nat) : Wm (w.drewN n) b F s := h

theorem mnew_any (n : Int) (w : World) :
    Calls Try.prog 59 #[.int .i64 n] w fun e w' => e = .returned (.pointer (some ⟨w.heap.size, 0, none⟩)) ∧ w' = w.alloc (.cells #[.slice none 0 0, .int .i64 (max n 0), .int .i64 0] 153) := by
  go_enter Try.func59, Try.ntmps59
  go_wp2
  all_goals go_ret
  · rw [show max n 0 = 0 from by omega]; exact ⟨rfl, rfl⟩
  · rw [show max n 0 = n from by omega]; exact ⟨rfl, rfl⟩
theorem mnew_calls (n : Int) (w : World) (hn : n ≤ 9223372036854775807) :
    Calls Try.prog 59 #[.int .i64 n] w fun e w' => e = .returned (.pointer (some ⟨w.heap.size, 0, none⟩)) ∧ Wm w' w.heap.size none ⟨max n 0, [], 0⟩ ∧ Fr (fun _ => False) w w' :=
  (mnew_any n w).mono fun e w' ⟨he, hw⟩ => by
    subst hw
    exact ⟨he, ⟨none, 0, Is.new _ _ _, Row.nil _ _, rfl, by simp only [Pk.S.Ok, List.length_nil]; omega⟩, (Fr.refl _ w).alloc _⟩

theorem mdone_any {w : World} {b : Nat} {F : Option Nat} {s : Pk.S} (h : Wm w b F s) :
    Calls Try.prog 61 #[.pointer (some ⟨b, 0, none⟩)] w fun e w' => e = .returned (.tuple #[.string ⟨s.done.1.toArray⟩, .int .i64 s.done.2]) ∧ ∃ n, w' = w.drewN n := by
  obtain ⟨A, c, h1, h2, h3, h4⟩ := h
  have c1 : w.cell? ⟨b, 0, none⟩ = some (.slice A s.bs.length c) := (h1.cell 0).trans rfl
  have c2 : w.cell? ⟨b, 2, none⟩ = some (.int .i64 s.e) := (h1.cell 2).trans rfl
  have hcv := conv_text h2
  by_cases he : s.e = 0
  · have hb : (s.e != 0) = false := by simp [he]
    have hd : s.done = (s.bs, 0) := by simp [Pk.S.done, he]
    rw [hd]
    clear he hd
    go_enter Try.func61, Try.ntmps61
    go_wp2
    go_ret2
    exact ⟨rfl, 0, rfl⟩
  · have hb : (s.e != 0) = true := by simpa using he
    have hd : s.done = ([], s.e) := by simp [Pk.S.done, he]
    rw [hd]
    clear he hd
    go_enter Try.func61, Try.ntmps61
    go_wp2
    go_quiet (fail)
    go_wp2
    go_ret2
    exact ⟨rfl, _, rfl⟩

/-- an error is told, if none was told before -/
theorem mput_no {w : World} {b : Nat} {F : Option Nat} {s : Pk.S} (h : Wm w b F s) :
    Calls Try.prog 80 #[.pointer (some ⟨b, 0, none⟩), .slice none 0 0, .bool false] w fun e w' => e = .returned (.tuple #[]) ∧ ∃ F', Wm w' b F' (s.fail 32) ∧ Mv w w' b F F' := by
  obtain ⟨A, c, h1, h2, h3, h4⟩ := h
  have c1 : w.cell? ⟨b, 2, none⟩ = some (.int .i64 s.e) := (h1.cell 2).trans rfl
  have f1 : w.frozen? ⟨b, 2, none⟩ = false := h1.frozen 2
  by_cases he : s.e = 0
  · have hb : (s.e != 0) = false := by simp [he]
    have He := Lib.hid he
    clear he
    go_enter Try.func80, Try.ntmps80
    go_wp2
    refine bodyPost_ret (results_none rfl _ _ _) rfl ?_
    have fr : Fr (fun k => k = b ∨ F = some k) w (w.setCell ⟨b, 2, none⟩ (.int .i64 32)) := (Fr.refl _ w).setCell (p := ⟨b, 2, none⟩) (.inl (.inl rfl)) _
    refine ⟨rfl, F, ⟨A, c, ?_, ?_, h3, Pk.S.fail_ok h4 32⟩, fr, .inl rfl⟩
    · simp only [Pk.S.fail, He.out, if_true]
      exact h1.set 2 _
    · rw [Pk.S.fail_bs]
      have hne := h2.ne h1 (by decide)
      exact h2.fr (S := fun k => k = b) ((Fr.refl (fun k => k = b) w).setCell (p := ⟨b, 2, none⟩) (.inl rfl) _) (fun k hk e => hne (e ▸ hk))
  · have hb : (s.e != 0) = true := by simpa using he
    rw [Pk.S.fail_bad he]
    clear he
    go_enter Try.func80, Try.ntmps80
    go_wp2
    refine bodyPost_ret (results_none rfl _ _ _) rfl ?_
    exact ⟨rfl, F, ⟨A, c, h1, h2, h3, h4⟩, Mv.refl _ _ _⟩

set_option maxHeartbeats 800000 in
theorem mput_yes {w : World} {b : Nat} {F : Option Nat} {s : Pk.S} (h : Wm w b F s) (a : Addr) (c' : Nat) (t : List UInt8) (hr : ∀ j u, (t.map B)[j]? = some u → w.cell? (a.add j) = some u) (hbd : s.L ≤ 140737488355328 ∨ s.bs.length + t.length ≤ 140737488355328) :
    Calls Try.prog 80 #[.pointer (some ⟨b, 0, none⟩), .slice (some a) t.length c', .bool true] w fun e w' => e = .returned (.tuple #[]) ∧ ∃ F', Wm w' b F' (s.put t) ∧ Mv w w' b F F' := by
  obtain ⟨A, c, h1, h2, h3, h4⟩ := h
  have c0 : w.cell? ⟨b, 0, none⟩ = some (.slice A s.bs.length c) := (h1.cell 0).trans rfl
  have c1 : w.cell? ⟨b, 1, none⟩ = some (.int .i64 s.L) := (h1.cell 1).trans rfl
  have c2 : w.cell? ⟨b, 2, none⟩ = some (.int .i64 s.e) := (h1.cell 2).trans rfl
  have f0 : w.frozen? ⟨b, 0, none⟩ = false := h1.frozen 0
  have f2 : w.frozen? ⟨b, 2, none⟩ = false := h1.frozen 2
  obtain ⟨hL0, hL1, hL2⟩ := id h4
  have hne : blk A ≠ some b := h2.ne h1 (by decide)
  by_cases he : s.e = 0
  · have hb : (s.e != 0) = false := by simp [he]
    have hsub : IntKind.i64.wrap (s.L - (s.bs.length : Int)) = s.L - (s.bs.length : Int) := IntWalk.i64_in _ (by omega)
    by_cases hfit : (t.length : Int) ≤ s.L - s.bs.length
    · have hp : s.put t = { s with bs := s.bs ++ t } := by simp [Pk.S.put, he, hfit]
      rw [hp]
      obtain ⟨i0, hi, hz0, hz1, hz2⟩ := info_parts Try.infoB
      have hd : decide (s.L - (s.bs.length : Int) < (t.length : Int)) = false := by simp; omega
      have hbd' : s.bs.length + t.length ≤ 140737488355328 := by omega
      clear he hp hbd
      go_enter Try.func80, Try.ntmps80
      go_wp2
      go_quiet (fail)
      go_wp2_with (at_builtin; refine wpList_append_own_at _ rfl (.tmp 36) (.tmp 37) 151 rfl 0 5 i0 (.int .u8 0) 1 1 Try.underlying151 hi hz0 hz1 hz2 rfl (by decide) (.slice A s.bs.length c) s.bs.length (s.bs.map B) rfl h2 a t.length c' (t.map B) rfl (by simp) hr (by intro u hu; obtain ⟨x, _, rfl⟩ := List.mem_map.1 hu; rfl) (by unfold maxLen; omega) (by omega) (Nat.zero_le _) ?_)
      intro v' w1 hown hg _ hat
      obtain ⟨A', c1', rfl⟩ := row_form hown
      have i1 : Is w1 b 153 #[.slice A s.bs.length c, .int .i64 s.L, .int .i64 s.e] := (hg.block b h1.lt (by rw [Row.own]; exact fun e => hne e.symm)).trans h1
      have k1 : w1.cell? ⟨b, 0, none⟩ = some (.slice A s.bs.length c) := (i1.cell 0).trans rfl
      have e1 : w1.frozen? ⟨b, 0, none⟩ = false := i1.frozen 0
      clear c0 c1 c2 f0 f2 hsub hd hb
      go_wp2
      go_end0
      rw [Row.own, Row.own] at hat
      have hF' : blk A' = F ∨ ∃ g, blk A' = some g ∧ w.heap.size ≤ g := by
        rcases hat with e | e
        · exact .inl (e.trans h3)
        · exact .inr ⟨_, e, Nat.le_refl _⟩
      have hne' : blk A' ≠ some b := by
        rcases hat with e | e
        · rw [e]; exact hne
        · rw [e]; intro hh; have hl := h1.lt; have hh' : w.heap.size = b := by simpa using hh
          omega
      have hg' : w.grownBy w1 F := by rw [Row.own, h3] at hg; exact ⟨hg.os, hg.tape, hg.output, hg.size, hg.block⟩
      have fr1 : Fr (fun k => k = b ∨ F = some k) w w1 := (Fr.refl _ w).grown hg' (fun k hk => .inl (.inr hk))
      have fr2 := fr1.setCell (p := ⟨b, 0, none⟩) (.inl (.inl rfl)) (.slice A' (s.bs.length + t.length) c1')
      refine ⟨rfl, blk A', ⟨A', c1', ?_, ?_, rfl, ?_⟩, fr2, hF'⟩
      · have := i1.set 0 (.slice A' (s.bs.length + t.length) c1')
        simpa using this
      · have hrow : Row 5 w1 A' c1' (s.bs ++ t) := by
          unfold Row; simpa using hown
        exact hrow.fr (S := fun k => k = b) ((Fr.refl (fun k => k = b) w1).setCell (p := ⟨b, 0, none⟩) (.inl rfl) _) (fun k hk e => hne' (e ▸ hk))
      · have := Pk.S.put_ok h4 t
        simp only [Pk.S.Ok, List.length_append] at *
        omega
    · have hp : s.put t = { s with e := 2 } := by simp [Pk.S.put, he, hfit]
      rw [hp]
      have hd : decide (s.L - (s.bs.length : Int) < (t.length : Int)) = true := by simp; omega
      clear he hp hbd hr
      go_enter Try.func80, Try.ntmps80
      go_wp2
      go_quiet (fail)
      go_wp2
      refine bodyPost_ret (results_none rfl _ _ _) rfl ?_
      have fr : Fr (fun k => k = b ∨ F = some k) w ((w.drewN nq).setCell ⟨b, 2, none⟩ (.int .i64 2)) := ((Fr.refl _ w).drewN nq).setCell (p := ⟨b, 2, none⟩) (.inl (.inl rfl)) _
      refine ⟨rfl, F, ⟨A, c, ?_, ?_, h3, h4⟩, fr, .inl rfl⟩
      · exact h1.set 2 _
      · exact h2.fr (S := fun k => k = b) (((Fr.refl (fun k => k = b) w).drewN nq).setCell (p := ⟨b, 2, none⟩) (.inl rfl) _) (fun k hk e => hne (e ▸ hk))
  · have hb : (s.e != 0) = true := by simpa using he
    rw [Pk.S.put_bad he]
    clear he
    go_enter Try.func80, Try.ntmps80
    go_wp2
    refine bodyPost_ret (results_none rfl _ _ _) rfl ?_
    exact ⟨rfl, F, ⟨A, c, h1, h2, h3, h4⟩, Mv.refl _ _ _⟩
end Go.Proofs.Ytfmhfngilimhjaa.Pa

namespace Go.Proofs.Ytfmhfngilimhjaa.Pa
open Go.RowKit

/-- the document's put, of bytes just laid -/
theorem mput_digits {w : World} {b : Nat} {F : Option Nat} {s : Pk.S} (h : Wm w b F s) (t : List UInt8) (hbd : s.L ≤ 140737488355328 ∨ s.bs.length + t.length ≤ 140737488355328) :
    Calls Try.prog 80 #[.pointer (some ⟨b, 0, none⟩), .slice (some ⟨w.heap.size, 0, none⟩) t.length t.length, .bool true] (w.alloc (.cells (t.map B).toArray 5)) fun e w' => e = .returned (.tuple #[]) ∧ ∃ F', Wm w' b F' (s.put t) ∧ Mv w w' b F F' := by
  have h' : Wm (w.alloc (.cells (t.map B).toArray 5)) b F s := h.fr ((Fr.refl (fun _ => False) w).alloc _) id (fun _ _ => id)
  refine (mput_yes h' _ t.length t (fun j u hu => ?_) hbd).mono fun e w' ⟨he, F', h1, h2⟩ => ⟨he, F', h1, Mv.after ((Fr.refl _ w).alloc _) h2⟩
  have e : (⟨w.heap.size, 0, none⟩ : Addr).add j = ⟨w.heap.size, j, none⟩ := by unfold Addr.add; split <;> simp_all
  rw [e, World.cell?_alloc_at _ _ _ _ rfl]
  simpa using hu

theorem mnum1 {w : World} {b : Nat} {F : Option Nat} {s : Pk.S} (h : Wm w b F s) (n : Int) (hbd : s.L ≤ 140737488355328 ∨ s.bs.length + 1 ≤ 140737488355328) :
    Calls Try.prog 60 #[.pointer (some ⟨b, 0, none⟩), .int .i64 n, .int .i64 1] w fun e w' => e = .returned (.tuple #[]) ∧ ∃ F', Wm w' b F' (s.num 1 n) ∧ Mv w w' b F F' := by
  by_cases hin : 0 ≤ n ∧ n < 256
  · obtain ⟨h0, h1⟩ := hin
    have hf : Pk.fits 1 n = true := fits_of h0 (by simpa using h1)
    have hs : s.num 1 n = s.put (Pk.digits 1 n) := by simp [Pk.S.num, hf]
    have K := mput_digits h (Pk.digits 1 n) (by rw [Pk.digits_length]; exact hbd)
    have hd : ((Pk.digits 1 n).map B).toArray = #[.int .u8 (n % 256)] := by
      simp only [Pk.digits, List.range, List.range.loop, List.map]
      rw [dig_cell 1 n 0 (n % 256) (by simp)]
    rw [hd, Pk.digits_length] at K
    rw [hs]
    have k1 := mk1
    clear hd hs hf hbd
    go_enter Try.func60, Try.ntmps60
    go_wp2
    refine wp_loop_rounds 2 ?_
    iterate 2 (rw [rounds_succ]; go_wp2)
    refine wp_loop_rounds 2 ?_
    iterate 1 (rw [rounds_succ]; go_wp2)
    rw [rounds_succ]
    go_wp2_with fail
    refine K.mono ?_
    rintro e w1 ⟨rfl, F', hw1, hm1⟩
    go_wp2
    go_end0
    exact ⟨rfl, F', hw1, hm1⟩
  · have hf : Pk.fits 1 n = false := by
      have : ¬ Pk.fits 1 n = true := fun e => hin (by simpa [Pk.fits] using e)
      simpa using this
    have hs : s.num 1 n = s.fail 32 := by simp [Pk.S.num, hf]
    have K := mput_no h
    rw [hs]
    clear hs hf hbd
    by_cases hneg : n < 0
    all_goals
      go_enter Try.func60, Try.ntmps60
      go_wp2
      refine wp_loop_rounds 2 ?_
      iterate 1 (rw [rounds_succ]; go_wp2)
      rw [rounds_succ]
      have hge : ¬ n < 0 → 256 ≤ n := by omega
      go_wp2_with fail
      refine K.mono ?_
      rintro e w1 ⟨rfl, F', hw1, hm1⟩
      go_wp2
      refine bodyPost_ret (results_none rfl _ _ _) rfl ?_
      exact ⟨rfl, F', hw1, hm1⟩

theorem mnum2 {w : World} {b : Nat} {F : Option Nat} {s : Pk.S} (h : Wm w b F s) (n : Int) (hbd : s.L ≤ 140737488355328 ∨ s.bs.length + 2 ≤ 140737488355328) :
    Calls Try.prog 60 #[.pointer (some ⟨b, 0, none⟩), .int .i64 n, .int .i64 2] w fun e w' => e = .returned (.tuple #[]) ∧ ∃ F', Wm w' b F' (s.num 2 n) ∧ Mv w w' b F F' := by
  by_cases hin : 0 ≤ n ∧ n < 65536
  · obtain ⟨h0, h1⟩ := hin
    have hf : Pk.fits 2 n = true := fits_of h0 (by simpa using h1)
    have hs : s.num 2 n = s.put (Pk.digits 2 n) := by simp [Pk.S.num, hf]
    have K := mput_digits h (Pk.digits 2 n) (by rw [Pk.digits_length]; exact hbd)
    have hd : ((Pk.digits 2 n).map B).toArray = #[.int .u8 (n / 256 % 256), .int .u8 (n % 256)] := by
      simp only [Pk.digits, List.range, List.range.loop, List.map]
      rw [dig_cell 2 n 0 (n / 256 % 256) (by simp), dig_cell 2 n 1 (n % 256) (by simp)]
    rw [hd, Pk.digits_length] at K
    rw [hs]
    have k1 := mk2
    clear hd hs hf hbd
    go_enter Try.func60, Try.ntmps60
    go_wp2
    refine wp_loop_rounds 3 ?_
    iterate 3 (rw [rounds_succ]; go_wp2)
    refine wp_loop_rounds 3 ?_
    iterate 2 (rw [rounds_succ]; go_wp2)
    rw [rounds_succ]
    go_wp2_with fail
    refine K.mono ?_
    rintro e w1 ⟨rfl, F', hw1, hm1⟩
    go_wp2
    go_end0
    exact ⟨rfl, F', hw1, hm1⟩
  · have hf : Pk.fits 2 n = false := by
      have : ¬ Pk.fits 2 n = true := fun e => hin (by simpa [Pk.fits] using e)
      simpa using this
    have hs : s.num 2 n = s.fail 32 := by simp [Pk.S.num, hf]
    have K := mput_no h
    rw [hs]
    clear hs hf hbd
    by_cases hneg : n < 0
    all_goals
      go_enter Try.func60, Try.ntmps60
      go_wp2
      refine wp_loop_rounds 3 ?_
      iterate 2 (rw [rounds_succ]; go_wp2)
      rw [rounds_succ]
      have hge : ¬ n < 0 → 65536 ≤ n := by omega
      go_wp2_with fail
      refine K.mono ?_
      rintro e w1 ⟨rfl, F', hw1, hm1⟩
      go_wp2
      refine bodyPost_ret (results_none rfl _ _ _) rfl ?_
      exact ⟨rfl, F', hw1, hm1⟩

theorem mnum4 {w : World} {b : Nat} {F : Option Nat} {s : Pk.S} (h : Wm w b F s) (n : Int) (hbd : s.L ≤ 140737488355328 ∨ s.bs.length + 4 ≤ 140737488355328) :
    Calls Try.prog 60 #[.pointer (some ⟨b, 0, none⟩), .int .i64 n, .int .i64 4] w fun e w' => e = .returned (.tuple #[]) ∧ ∃ F', Wm w' b F' (s.num 4 n) ∧ Mv w w' b F F' := by
  by_cases hin : 0 ≤ n ∧ n < 4294967296
  · obtain ⟨h0, h1⟩ := hin
    have hf : Pk.fits 4 n = true := fits_of h0 (by simpa using h1)
    have hs : s.num 4 n = s.put (Pk.digits 4 n) := by simp [Pk.S.num, hf]
    have K := mput_digits h (Pk.digits 4 n) (by rw [Pk.digits_length]; exact hbd)
    have hd : ((Pk.digits 4 n).map B).toArray = #[.int .u8 (n / 256 / 256 / 256 % 256), .int .u8 (n / 256 / 256 % 256), .int .u8 (n / 256 % 256), .int .u8 (n % 256)] := by
      simp only [Pk.digits, List.range, List.range.loop, List.map]
      rw [dig_cell 4 n 0 (n / 256 / 256 / 256 % 256) (by simp; omega), dig_cell 4 n 1 (n / 256 / 256 % 256) (by simp; omega), dig_cell 4 n 2 (n / 256 % 256) (by simp), dig_cell 4 n 3 (n % 256) (by simp)]
    rw [hd, Pk.digits_length] at K
    rw [hs]
    have k1 := mk4
    clear hd hs hf hbd
    go_enter Try.func60, Try.ntmps60
    go_wp2
    refine wp_loop_rounds 5 ?_
    iterate 5 (rw [rounds_succ]; go_wp2)
    refine wp_loop_rounds 5 ?_
    iterate 4 (rw [rounds_succ]; go_wp2)
    rw [rounds_succ]
    go_wp2_with fail
    refine K.mono ?_
    rintro e w1 ⟨rfl, F', hw1, hm1⟩
    go_wp2
    go_end0
    exact ⟨rfl, F', hw1, hm1⟩
  · have hf : Pk.fits 4 n = false := by
      have : ¬ Pk.fits 4 n = true := fun e => hin (by simpa [Pk.fits] using e)
      simpa using this
    have hs : s.num 4 n = s.fail 32 := by simp [Pk.S.num, hf]
    have K := mput_no h
    rw [hs]
    clear hs hf hbd
    by_cases hneg : n < 0
    all_goals
      go_enter Try.func60, Try.ntmps60
      go_wp2
      refine wp_loop_rounds 5 ?_
      iterate 4 (rw [rounds_succ]; go_wp2)
      rw [rounds_succ]
      have hge : ¬ n < 0 → 4294967296 ≤ n := by omega
      go_wp2_with fail
      refine K.mono ?_
      rintro e w1 ⟨rfl, F', hw1, hm1⟩
      go_wp2
      refine bodyPost_ret (results_none rfl _ _ _) rfl ?_
      exact ⟨rfl, F', hw1, hm1⟩
end Go.Proofs.Ytfmhfngilimhjaa.Pa

namespace Go.Proofs.Ytfmhfngilimhjaa.Pa
open Go.RowKit


/-- The document's reader lies at block b, and stands at s. -/
def Rm (w : World) (b : Nat) (s : ByteArray) (bad : Bool) : Prop := Is w b 150 #[.string s, .bool bad]
theorem Rm.fr {w w1 : World} {b : Nat} {s : ByteArray} {bad : Bool} {S : Nat → Prop} (h : Rm w b s bad) (f : Fr S w w1) (hn : ¬ S b) : Rm w1 b s bad := Is.fr h f hn
theorem Rm.drewN {w : World} {b : Nat} {s : ByteArray} {bad : Bool} (h : Rm w b s bad) (n : Nat) : Rm (w.drewN n) b s bad := h

theorem mrnum_no {w : World} {b : Nat} {r : Rs} (h : Rm w b r.s r.bad) (n : Nat) (hno : r.no n = true) :
    Calls Try.prog 79 #[.pointer (some ⟨b, 0, none⟩), .int .i64 (n : Int)] w fun e w' => e = .returned (.int .i64 0) ∧ Rm w' b r.s true ∧ Fr (fun k => k = b) w w' := by
  have c0 : w.cell? ⟨b, 0, none⟩ = some (.string r.s) := (h.cell 0).trans rfl
  have c1 : w.cell? ⟨b, 1, none⟩ = some (.bool r.bad) := (h.cell 1).trans rfl
  have f1 : w.frozen? ⟨b, 1, none⟩ = false := h.frozen 1
  obtain ⟨s, bad⟩ := r
  simp only at c0 c1 ⊢
  unfold Rs.no at hno
  cases bad with
  | true =>
    clear hno
    go_enter Try.func79, Try.ntmps79
    go_wp2
    go_ret
    exact ⟨rfl, h.set 1 _, (Fr.refl (fun k => k = b) w).setCell (p := ⟨b, 1, none⟩) (.inl rfl) _⟩
  | false =>
    have hd : decide (s.size < n) = true := by simpa using hno
    clear hno
    go_enter Try.func79, Try.ntmps79
    go_wp2
    go_ret
    exact ⟨rfl, h.set 1 _, (Fr.refl (fun k => k = b) w).setCell (p := ⟨b, 1, none⟩) (.inl rfl) _⟩

set_option maxHeartbeats 800000 in
theorem mrnum_yes {w : World} {b : Nat} {s : ByteArray} (h : Rm w b s false) (n : Nat) (hn : n ≤ 4) (hle : n ≤ s.size) :
    Calls Try.prog 79 #[.pointer (some ⟨b, 0, none⟩), .int .i64 (n : Int)] w fun e w' => e = .returned (.int .i64 (val ((bytesOf s).take n))) ∧ Rm w' b (s.extract n s.size) false ∧ Fr (fun k => k = b) w w' := by
  have c0 : w.cell? ⟨b, 0, none⟩ = some (.string s) := (h.cell 0).trans rfl
  have c1 : w.cell? ⟨b, 1, none⟩ = some (.bool false) := (h.cell 1).trans rfl
  have f0 : w.frozen? ⟨b, 0, none⟩ = false := h.frozen 0
  have hd : decide (s.size < n) = false := by simp; omega
  go_enter Try.func79, Try.ntmps79
  go_wp2
  go_loop [6, 5] (fun i v => ∃ k, k ≤ n ∧ i = .int .i64 (k : Nat) ∧ v = .int .i64 (val ((bytesOf s).take k))) (fun i _ => n - (intOf i).toNat)
  case atStart => exact ⟨0, Nat.zero_le _, rfl, rfl⟩
  case round =>
    obtain ⟨k, hk, rfl, rfl⟩ := hrel
    by_cases hlt : k < n
    · have hlt' : k < (bytesOf s).length := by rw [bytesOf_length]; omega
      have hls : k < s.size := by omega
      have hx : s[k] = (bytesOf s)[k] := rfl
      have hvb := val_take_bd (bytesOf s) k (by omega)
      have hv1 : val ((bytesOf s).take k) < 16777216 := by
        have hk3 : k = 0 ∨ k = 1 ∨ k = 2 ∨ k = 3 := by omega
        rcases hk3 with rfl | rfl | rfl | rfl <;> omega
      have hv0 := hvb.1
      have hsn : val ((bytesOf s).take (k + 1)) = val ((bytesOf s).take k) * 256 + (s[k].toNat : Int) := by
        rw [List.take_succ_eq_append_getElem hlt', val_snoc]; rfl
      have HS := Lib.hid hsn
      have hby : (s[k].toNat : Int) < 256 := by have := UInt8.toNat_lt s[k]; omega
      clear hsn hvb hx hlt'
      go_wp2
      go_round
      case rel => exact ⟨k + 1, by omega, by go_num, by rw [HS.out]; congr 1; omega⟩
      case measure => simp [intOf]; omega
    · have hk' : k = n := by omega
      have HV : Hid (val ((bytesOf s).take k) = val ((bytesOf s).take n)) := by
        show _ = _
        rw [hk']
      clear hk'
      go_wp2
      go_ret
      exact ⟨by rw [← HV.out]; rfl, h.set 0 _, (Fr.refl (fun k => k = b) w).setCell (p := ⟨b, 0, none⟩) (.inl rfl) _⟩
theorem mrnum_any {w : World} {b : Nat} {r : Rs} (h : Rm w b r.s r.bad) (n : Nat) (hn : n ≤ 4) :
    Calls Try.prog 79 #[.pointer (some ⟨b, 0, none⟩), .int .i64 (n : Int)] w fun e w' => e = .returned (.int .i64 (val (bytesOf (r.tk n)))) ∧ Rm w' b (r.aft n).s (r.aft n).bad ∧ Fr (fun k => k = b) w w' := by
  rw [Rs.tk_bytes]
  unfold Rs.aft
  by_cases hno : r.no n = true
  · rw [if_pos hno, if_pos hno]
    exact mrnum_no h n hno
  · rw [if_neg hno, if_neg hno]
    have hb : r.bad = false := by
      have : ¬ r.bad = true := fun e => hno (by unfold Rs.no; rw [e]; rfl)
      simpa using this
    have hle : n ≤ r.s.size := by
      have : ¬ r.s.size < n := fun e => hno (by unfold Rs.no; simp [e])
      omega
    rw [hb] at h
    exact mrnum_yes h n hn hle
end Go.Proofs.Ytfmhfngilimhjaa.Pa


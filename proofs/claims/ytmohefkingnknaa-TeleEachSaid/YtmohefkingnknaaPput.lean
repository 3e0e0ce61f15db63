/- The contracts of add and put: what is written, if it may be. -/
import Derived.Test.YtmohefkingnknaaPwr
import Derived.IntWalk
namespace Go.Proofs.Ytmohefkingnknaa.Pa
open Go.RowKit


theorem Try.infoB : (Try.prog.info? 5).map (fun i => (i.zero, i.size, i.bytes)) = some (some (.int .u8 0), 1, 1) := by kernel_rfl

theorem row_form {e : TypeId} {w : World} {v : Value} {n : Nat} {xs : List Value} (h : w.ownsRow 0 e 1 v n xs) : ∃ A c, v = .slice A n c := by
  rcases h.2 with ⟨hv, h0⟩ | ⟨g, cap, cur, hv, _⟩
  · exact ⟨none, 0, by rw [hv, h0]⟩
  · exact ⟨_, _, hv⟩

set_option maxHeartbeats 400000 in
theorem add_yes {w : World} {b : Nat} {F : Option Nat} {s : Pk.S} (h : Wr w b F s) (a : Addr) (c' : Nat) (t : List UInt8) (hr : ∀ j u, (t.map B)[j]? = some u → w.cell? (a.add j) = some u) (hfit : (t.length : Int) ≤ s.L - s.bs.length) (hbd : s.bs.length + t.length ≤ 140737488355328) :
    Calls Try.prog 76 #[.pointer (some ⟨b, 0, none⟩), .slice (some a) t.length c'] w fun e w' => e = .returned (.bool true) ∧ ∃ F', Wr w' b F' { s with bs := s.bs ++ t } ∧ Mv w w' b F F' := by
  obtain ⟨A, c, h1, h2, h3, h4⟩ := h
  have c0 : w.cell? ⟨b, 0, none⟩ = some (.int .i64 s.L) := (h1.cell 0).trans rfl
  have c1 : w.cell? ⟨b, 1, none⟩ = some (.slice A s.bs.length c) := (h1.cell 1).trans rfl
  have f1 : w.frozen? ⟨b, 1, none⟩ = false := h1.frozen 1
  obtain ⟨hL0, hL1, hL2⟩ := id h4
  obtain ⟨i0, hi, hz0, hz1, hz2⟩ := info_parts Try.infoB
  have hsub : IntKind.i64.wrap (s.L - (s.bs.length : Int)) = s.L - (s.bs.length : Int) := IntWalk.i64_in _ (by omega)
  have hd : decide (s.L - (s.bs.length : Int) < (t.length : Int)) = false := by simp; omega
  go_enter Try.func76, Try.ntmps76
  go_wp2
  go_quiet (fail)
  go_wp2_with (at_builtin; refine wpList_append_own_at _ rfl (.tmp 22) (.tmp 23) 110 rfl 0 5 i0 (.int .u8 0) 1 1 Try.underlying110 hi hz0 hz1 hz2 rfl (by decide) (.slice A s.bs.length c) s.bs.length (s.bs.map B) rfl h2 a t.length c' (t.map B) rfl (by simp) hr (by intro u hu; obtain ⟨x, _, rfl⟩ := List.mem_map.1 hu; rfl) (by unfold maxLen; omega) (by omega) (Nat.zero_le _) ?_)
  intro v' w1 hown hg _ hat
  obtain ⟨A', c1', rfl⟩ := row_form hown
  have hne : blk A ≠ some b := h2.ne h1 (by decide)
  have i1 : Is w1 b 114 #[.int .i64 s.L, .slice A s.bs.length c, .int .i64 s.e] := (hg.block b h1.lt (by rw [Row.own]; exact fun e => hne e.symm)).trans h1
  have k1 : w1.cell? ⟨b, 1, none⟩ = some (.slice A s.bs.length c) := (i1.cell 1).trans rfl
  have e1 : w1.frozen? ⟨b, 1, none⟩ = false := i1.frozen 1
  clear c0 c1 f1 hsub hd
  go_wp2
  go_ret
  rw [Row.own, Row.own] at hat
  have hF' : blk A' = F ∨ ∃ g, blk A' = some g ∧ w.heap.size ≤ g := by
    rcases hat with e | e
    · exact .inl (e.trans h3)
    · exact .inr ⟨_, e, Nat.le_refl _⟩
  have hne' : blk A' ≠ some b := by
    rcases hat with e | e
    · rw [e]; exact hne
    · rw [e]; intro hh; have hl := h1.lt; have hh' : w.heap.size = b := by simpa using hh
      omega
  have hg' : w.grownBy w1 F := by rw [Row.own, h3] at hg; exact ⟨hg.os, hg.tape, hg.output, hg.size, hg.block⟩
  have fr1 : Fr (fun k => k = b ∨ F = some k) w w1 := (Fr.refl _ w).grown hg' (fun k hk => .inl (.inr hk))
  have fr2 := fr1.setCell (p := ⟨b, 1, none⟩) (.inl (.inl rfl)) (.slice A' (s.bs.length + t.length) c1')
  refine ⟨rfl, blk A', ⟨A', c1', ?_, ?_, rfl, ?_⟩, fr2, hF'⟩
  · have := i1.set 1 (.slice A' (s.bs.length + t.length) c1')
    simpa using this
  · have hrow : Row 5 w1 A' c1' (s.bs ++ t) := by
      unfold Row; simpa using hown
    exact hrow.fr (S := fun k => k = b) ((Fr.refl (fun k => k = b) w1).setCell (p := ⟨b, 1, none⟩) (.inl rfl) _) (fun k hk e => hne' (e ▸ hk))
  · have := Pk.S.put_ok h4 t
    simp only [Pk.S.Ok, List.length_append] at *
    omega

theorem add_no {w : World} {b : Nat} {F : Option Nat} {s : Pk.S} (h : Wr w b F s) (A' : Option Addr) (c' n : Nat) (hfit : s.L - s.bs.length < (n : Int)) :
    Calls Try.prog 76 #[.pointer (some ⟨b, 0, none⟩), .slice A' n c'] w fun e w' => e = .returned (.bool false) ∧ ∃ k, w' = w.drewN k := by
  obtain ⟨A, c, h1, h2, h3, h4⟩ := h
  have c0 : w.cell? ⟨b, 0, none⟩ = some (.int .i64 s.L) := (h1.cell 0).trans rfl
  have c1 : w.cell? ⟨b, 1, none⟩ = some (.slice A s.bs.length c) := (h1.cell 1).trans rfl
  obtain ⟨hL0, hL1, hL2⟩ := id h4
  have hsub : IntKind.i64.wrap (s.L - (s.bs.length : Int)) = s.L - (s.bs.length : Int) := IntWalk.i64_in _ (by omega)
  have hd : decide (s.L - (s.bs.length : Int) < (n : Int)) = true := by simp; omega
  go_enter Try.func76, Try.ntmps76
  go_wp2
  go_quiet (fail)
  go_wp2
  go_ret
  exact ⟨rfl, _, rfl⟩

theorem Wr.drewN {w : World} {b : Nat} {F : Option Nat} {s : Pk.S} (h : Wr w b F s) (n : Nat) : Wr (w.drewN n) b F s := h
set_option maxHeartbeats 400000 in
theorem put_any {w : World} {b : Nat} {F : Option Nat} {s : Pk.S} (h : Wr w b F s) (a : Addr) (c' : Nat) (t : List UInt8) (hr : ∀ j u, (t.map B)[j]? = some u → w.cell? (a.add j) = some u) (hbd : s.L ≤ 140737488355328 ∨ s.bs.length + t.length ≤ 140737488355328) :
    Calls Try.prog 71 #[.pointer (some ⟨b, 0, none⟩), .slice (some a) t.length c'] w fun e w' => e = .returned (.tuple #[]) ∧ ∃ F', Wr w' b F' (s.put t) ∧ Mv w w' b F F' := by
  obtain ⟨A, c, h1, h2, h3, h4⟩ := id h
  have c2 : w.cell? ⟨b, 2, none⟩ = some (.int .i64 s.e) := (h1.cell 2).trans rfl
  by_cases he : s.e = 0
  · have hb : (s.e == 0) = true := by simp [he]
    by_cases hfit : (t.length : Int) ≤ s.L - s.bs.length
    · have hp : s.put t = { s with bs := s.bs ++ t } := by simp [Pk.S.put, he, hfit]
      rw [hp]
      have K := add_yes h a c' t hr hfit (by have := h4.2.2; omega)
      clear he hp hr
      go_enter Try.func71, Try.ntmps71
      go_wp2_with (go_at_call 76; refine K.mono ?_; rintro e w1 ⟨rfl, F', hw1, hm1⟩)
      go_end0
      exact ⟨rfl, F', hw1, hm1⟩
    · have hp : s.put t = s.fail 2 := by simp [Pk.S.put, Pk.S.fail, he, hfit]
      rw [hp]
      have K := add_no h (some a) c' t.length (by omega)
      have K2 := fun n => fail_any (h.drewN n) 2
      clear he hp hr
      go_enter Try.func71, Try.ntmps71
      go_wp2_with (first | (go_at_call 76; refine K.mono ?_; rintro e w1 ⟨rfl, n1, rfl⟩) | (go_at_call 70; refine (K2 _).mono ?_; rintro e w2 ⟨rfl, hw2, hm2⟩))
      go_end0
      exact ⟨rfl, F, hw2, Mv.after ((Fr.refl _ w).drewN _) hm2⟩
  · have hb : (s.e == 0) = false := by simpa using he
    rw [Pk.S.put_bad he]
    clear he
    go_enter Try.func71, Try.ntmps71
    go_wp2
    go_end0
    exact ⟨rfl, F, h, Mv.refl _ _ _⟩
end Go.Proofs.Ytmohefkingnknaa.Pa

/- Contracts: places (the slice of a page, or why there is none); act (an act is counted, and cut). -/
import Derived.Test.YtdoljggaoidljaaGreatMem
namespace Go.Proofs.YtdoljggaoidljaaGreat
open Go.RowKit Go.Maps

section
variable {w : World} {b : Nat} {r : Option Nat} {m : Mm}

set_option maxHeartbeats 800000 in
/-- places that can't be had -/
theorem places_no (h : Mem w b r m) (p a n : Int) (hp1 : -9223372036854775808 ≤ p) (hp2 : p ≤ 9223372036854775807) (ha1 : -9223372036854775808 ≤ a) (ha2 : a ≤ 9223372036854775807) (hn1 : -9223372036854775808 ≤ n) (hn2 : n ≤ 9223372036854775807)
    (hs : ¬ m.spotE p a n = 0) :
    Calls Tryz.prog 40 #[.pointer (some ⟨b, 0, none⟩), .int .i64 p, .int .i64 a, .int .i64 n] w fun e w' => e = .returned (.tuple #[.slice none 0 0, .int .i64 (m.spotE p a n : Nat)]) ∧ w = w' := by
  have g := h.c3
  clear h
  have key : (m.down = true ∧ m.spotE p a n = 14) ∨ (m.down = false ∧ ((isPageB p = false ∨ (isPageB p = true ∧ a < 0) ∨ (isPageB p = true ∧ 0 ≤ a ∧ 4096 < a)) ∧ m.spotE p a n = 20 ∨ (isPageB p = true ∧ 0 ≤ a ∧ a ≤ 4096 ∧ (n < 0 ∨ (0 ≤ n ∧ 4096 - a < n)) ∧ m.spotE p a n = 2))) := by
    unfold Mm.spotE at hs ⊢
    unfold isPageB
    by_cases hd : m.down = true
    · exact .inl ⟨hd, by rw [if_pos hd]⟩
    · rw [if_neg hd] at hs ⊢
      refine .inr ⟨by simpa using hd, ?_⟩
      by_cases h2 : ¬ (0 ≤ p ∧ p < 24) ∨ a < 0 ∨ 4096 < a
      · rw [if_pos h2]
        refine .inl ⟨?_, rfl⟩
        by_cases h3 : 0 ≤ p ∧ p < 24
        · simp only [h3, and_self, decide_true, true_and, Bool.true_eq_false, false_or]
          omega
        · exact .inl (by simpa using h3)
      · rw [if_neg h2] at hs ⊢
        by_cases h3 : n < 0 ∨ 4096 - a < n
        · rw [if_pos h3]
          refine .inr ⟨by simp; omega, by omega, by omega, by omega, rfl⟩
        · rw [if_neg h3] at hs
          exact absurd rfl hs
  clear hs
  generalize m.spotE p a n = e0 at key
  rcases key with ⟨hd, rfl⟩ | ⟨hd, ⟨hq | ⟨hq, h0⟩ | ⟨hq, h0, h4⟩, rfl⟩ | ⟨hq, h0, h4, hn | ⟨hn, hn4⟩, rfl⟩⟩
  · rw [hd] at g
    go_enter Tryz.func40, Tryz.ntmps40
    go_wp2
    go_ret2
    exact ⟨rfl, rfl⟩
  · rw [hd] at g
    have HQ := Lib.hid hq
    clear hq hd
    go_enter Tryz.func40, Tryz.ntmps40
    go_wp2_with (go_at_call 57; refine (isPage_any _ _ hp1 hp2).mono ?_; rintro e w' ⟨rfl, rfl⟩; rw [HQ.out])
    go_ret2
    exact ⟨rfl, rfl⟩
  · rw [hd] at g
    have HQ := Lib.hid hq
    have d1 : decide (a < 0) = true := by simpa using h0
    clear hq hd
    go_enter Tryz.func40, Tryz.ntmps40
    go_wp2_with (go_at_call 57; refine (isPage_any _ _ hp1 hp2).mono ?_; rintro e w' ⟨rfl, rfl⟩; rw [HQ.out])
    go_ret2
    exact ⟨rfl, rfl⟩
  · rw [hd] at g
    have HQ := Lib.hid hq
    have d1 : decide (a < 0) = false := by simpa using h0
    have d2 : decide (4096 < a) = true := by simpa using h4
    clear hq hd
    go_enter Tryz.func40, Tryz.ntmps40
    go_wp2_with (go_at_call 57; refine (isPage_any _ _ hp1 hp2).mono ?_; rintro e w' ⟨rfl, rfl⟩; rw [HQ.out])
    go_ret2
    exact ⟨rfl, rfl⟩
  · rw [hd] at g
    have HQ := Lib.hid hq
    have d1 : decide (a < 0) = false := by simpa using h0
    have d2 : decide (4096 < a) = false := by simpa using h4
    have d3 : decide (n < 0) = true := by simpa using hn
    clear hq hd
    go_enter Tryz.func40, Tryz.ntmps40
    go_wp2_with (go_at_call 57; refine (isPage_any _ _ hp1 hp2).mono ?_; rintro e w' ⟨rfl, rfl⟩; rw [HQ.out])
    go_ret2
    exact ⟨rfl, rfl⟩
  · rw [hd] at g
    have HQ := Lib.hid hq
    have d1 : decide (a < 0) = false := by simpa using h0
    have d2 : decide (4096 < a) = false := by simpa using h4
    have d3 : decide (n < 0) = false := by simpa using hn
    have d4 : decide (4096 - a < n) = true := by simpa using hn4
    clear hq hd
    go_enter Tryz.func40, Tryz.ntmps40
    go_wp2_with (go_at_call 57; refine (isPage_any _ _ hp1 hp2).mono ?_; rintro e w' ⟨rfl, rfl⟩; rw [HQ.out])
    go_ret2
    exact ⟨rfl, rfl⟩

theorem spot_ok {p a n : Int} (hs : m.spotE p a n = 0) : m.down = false ∧ ∃ q a' n' : Nat, p = q ∧ a = a' ∧ n = n' ∧ q < 24 ∧ a' + n' ≤ 4096 := by
  unfold Mm.spotE at hs
  by_cases hd : m.down = true
  · rw [if_pos hd] at hs; cases hs
  · rw [if_neg hd] at hs
    by_cases h2 : ¬ (0 ≤ p ∧ p < 24) ∨ a < 0 ∨ 4096 < a
    · rw [if_pos h2] at hs; cases hs
    · rw [if_neg h2] at hs
      by_cases h3 : n < 0 ∨ 4096 - a < n
      · rw [if_pos h3] at hs; cases hs
      · exact ⟨by simpa using hd, p.toNat, a.toNat, n.toNat, by omega, by omega, by omega, by omega, by omega⟩

/-- bytes of a page as a slice -/
theorem pageSlice (g o a n : Nat) (ha : a + n ≤ 4096) (h4 : a ≠ 4096) (W : World) :
    (Instr.sliceAt 58 (.pointer (some ⟨g, o, none⟩)) (some (.int .i64 (a : Nat))) (some (.int .i64 ((a : Nat) + (n : Nat)))) none).run Tryz.prog W = .ok (.slice (some ⟨g, o + a, none⟩) n (4096 - a)) W := by
  have h1 : (a : Int) + (n : Int) ≤ 4096 := by omega
  have h3 : 0 ≤ (a : Int) + (n : Int) := by omega
  have e1 : ((a : Int) + (n : Int)).toNat = a + n := by omega
  have e2 : (a : Int).toNat = a := by omega
  have h4' : ¬ 4096 = a := fun e => h4 e.symm
  have e3 : a + n - a = n := by omega
  have e4 : (⟨g, o, none⟩ : Addr).add a = ⟨g, o + a, none⟩ := by unfold Addr.add; split <;> simp_all
  simp [Instr.sliceAt, run_underlying Tryz.underlying58, Instr.sureAddr, Instr.sliceBounds, Instr.sliceBound, asIntOf, Tryz.sizeOf5, Result.andThen, h1, h3, e1, e2, h4', e3, e4]

set_option maxHeartbeats 800000 in
/-- places that there are -/
theorem places_ok (h : Mem w b r m) (p a n : Nat) (hp : p < 24) (ha : a + n ≤ 4096) (hd : m.down = false) :
    Calls Tryz.prog 40 #[.pointer (some ⟨b, 0, none⟩), .int .i64 (p : Nat), .int .i64 (a : Nat), .int .i64 (n : Nat)] w fun e w' => (∃ o, e = .returned (.tuple #[.slice (some ⟨b, o, none⟩) n (4096 - a), .int .i64 0]) ∧ (0 < n → o = 4 + p * 4096 + a)) ∧ w = w' := by
  have g := h.c3
  have gb := h.blt
  have gp := fun i (hi : i < 4096) => h.cpg hp hi
  clear h
  rw [hd] at g
  have HQ : Hid (isPageB (p : Int) = true) := Lib.hid (by unfold isPageB; simp; omega)
  have d1 : decide ((a : Int) < 0) = false := by simp
  have d2 : decide (4096 < (a : Int)) = false := by simp; omega
  have d3 : decide ((n : Int) < 0) = false := by simp
  have d4 : decide (4096 - (a : Int) < (n : Int)) = false := by simp; omega
  clear hd gp
  by_cases h4 : a = 4096
  · subst h4
    have hn0 : n = 0 := by omega
    subst hn0
    go_enter Tryz.func40, Tryz.ntmps40
    go_wp2_with (go_at_call 57; refine (isPage_any _ _ (by omega) (by omega)).mono ?_; rintro e w' ⟨rfl, rfl⟩; rw [HQ.out])
    go_ret2
    exact ⟨⟨_, rfl, fun h => by omega⟩, rfl⟩
  · have hsl := pageSlice b (4 + p * 4096) a n ha h4
    go_enter Tryz.func40, Tryz.ntmps40
    go_wp2_with (go_at_call 57; refine (isPage_any _ _ (by omega) (by omega)).mono ?_; rintro e w' ⟨rfl, rfl⟩; rw [HQ.out])
    go_ret2
    exact ⟨⟨_, rfl, fun h => rfl⟩, rfl⟩
end
end Go.Proofs.YtdoljggaoidljaaGreat

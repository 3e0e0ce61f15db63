/- The law's own told: the two memories tell the same. -/
import Derived.Test.YtafhkhkpknipmaaAll
namespace Go.Proofs.Ytafhkhkpknipmaa
open Go.RowKit Go.Maps

theorem same_flip {P : Program} {f : FuncId} {args : Array Value} {w : World} {e0 : Ending} (h : Calls P f args w fun e w' => e = e0 ∧ w = w') : Calls P f args w fun e w' => e = e0 ∧ w' = w := h.mono fun _ _ ⟨he, hw⟩ => ⟨he, hw.symm⟩

set_option maxRecDepth 100000 in
set_option maxHeartbeats 8000000 in
theorem told_any {w : World} {b : Nat} {r : Option Nat} {R : Rf} {m : Mm} (h : Mem w b r m) (h2 : RM w R m) (p : Int) (hp1 : -9223372036854775808 ≤ p) (hp2 : p ≤ 9223372036854775807) :
    Calls Try.prog 24 #[.pointer (some ⟨b, 0, none⟩), .pointer (some ⟨R.b, 0, none⟩), .int .i64 p] w fun e w' => e = .returned (.bool true) ∧ ∃ n, w' = w.drewN n := by
  have KD := fun n => same_flip (down_any (h.none ((Fr.refl _ w).drewN n)))
  have KA := fun n => same_flip (acts_any (h.none ((Fr.refl _ w).drewN n)))
  have KB := fun n => same_flip (bare_any (h.none ((Fr.refl _ w).drewN n)) p hp1 hp2)
  have KW := fun n => same_flip (worn_any (h.none ((Fr.refl _ w).drewN n)) p hp1 hp2)
  have KR := fun n => rbare_any (h2.none ((Fr.refl _ w).drewN n)) p hp1 hp2
  have g1 := h2.c1
  have g4 := h2.c4
  have g5 := h2.c5
  have hbw := h2.lt R.b (.inl rfl)
  have hww := h2.lt R.wb (.inr (.inl rfl))
  have q1 : (m.down == m.down) = true := by simp
  have q2 : ((m.acts : Int) == (m.acts : Int)) = true := by simp
  have q3 : ((m.bare p : Int) == (m.bare p : Int)) = true := by simp
  have q4 : ((m.wornAt p : Int) == (m.wornAt p : Int)) = true := by simp
  by_cases hp : 0 ≤ p ∧ p < 24
  · obtain ⟨q, rfl⟩ : ∃ q : Nat, p = q := ⟨p.toNat, by omega⟩
    have hq : q < 24 := by omega
    have gw := h2.wear.cell hq
    have e : m.worn q = m.wornAt (q : Int) := by unfold Mm.wornAt; rw [if_pos hp]; rfl
    rw [e] at gw
    have d0 : decide ((0 : Int) ≤ (q : Int)) = true := by simp
    have d1 : decide ((q : Int) < 24) = true := by simp; omega
    clear h h2 hp e
    generalize m.wornAt (q : Int) = wn at *
    generalize m.bare (q : Int) = bn at *
    generalize m.acts = an at *
    generalize m.down = dn at *
    go_enter Try.func24, Try.ntmps24
    go_wp2_with fail
    go_quiet (first | (go_at_call 25; exact Calls.quiet_of_same (KD _)) | (go_at_call 26; exact Calls.quiet_of_same (KA _)) | (go_at_call 23; exact Calls.quiet_of_same (KB _)) | (go_at_call 27; exact Calls.quiet_of_same (KW _)) | (go_at_call 37; exact Calls.quiet_of_same (KR _)))
    go_wp2_with fail
    go_ret
    exact ⟨rfl, _, rfl⟩
  · have e : m.wornAt p = 0 := by unfold Mm.wornAt; rw [if_neg hp]
    have hcase : p < 0 ∨ 0 ≤ p ∧ 24 ≤ p := by omega
    rw [e] at KW q4
    clear h h2 hp e
    generalize m.bare p = bn at *
    generalize m.acts = an at *
    generalize m.down = dn at *
    rcases hcase with h0 | ⟨h0, h1⟩
    · have d0 : decide ((0 : Int) ≤ p) = false := by simp; omega
      go_enter Try.func24, Try.ntmps24
      go_wp2_with fail
      go_quiet (first | (go_at_call 25; exact Calls.quiet_of_same (KD _)) | (go_at_call 26; exact Calls.quiet_of_same (KA _)) | (go_at_call 23; exact Calls.quiet_of_same (KB _)) | (go_at_call 27; exact Calls.quiet_of_same (KW _)) | (go_at_call 37; exact Calls.quiet_of_same (KR _)))
      go_wp2_with fail
      go_ret
      exact ⟨rfl, _, rfl⟩
    · have d0 : decide ((0 : Int) ≤ p) = true := by simp; omega
      have d1 : decide (p < 24) = false := by simp; omega
      go_enter Try.func24, Try.ntmps24
      go_wp2_with fail
      go_quiet (first | (go_at_call 25; exact Calls.quiet_of_same (KD _)) | (go_at_call 26; exact Calls.quiet_of_same (KA _)) | (go_at_call 23; exact Calls.quiet_of_same (KB _)) | (go_at_call 27; exact Calls.quiet_of_same (KW _)) | (go_at_call 37; exact Calls.quiet_of_same (KR _)))
      go_wp2_with fail
      go_ret
      exact ⟨rfl, _, rfl⟩
end Go.Proofs.Ytafhkhkpknipmaa

/- The contracts of the reader: Left, End; of strings.Clone. -/
import Derived.Test.YtmohefkingnknaaPread
namespace Go.Proofs.Ytmohefkingnknaa.Pa
open Go.RowKit

/-- how a reading ended -/
def Rs.fin (r : Rs) : Int := if r.bad = true then 1 else if r.s.size = 0 then 0 else 3
theorem end_any {w : World} {b : Nat} {r : Rs} (h : Re w b r.s r.bad) :
    Calls Try.prog 43 #[.pointer (some ⟨b, 0, none⟩)] w fun e w' => e = .returned (.int .i64 r.fin) ∧ w = w' := by
  have c0 : w.cell? ⟨b, 0, none⟩ = some (.string r.s) := (h.cell 0).trans rfl
  have c1 : w.cell? ⟨b, 1, none⟩ = some (.bool r.bad) := (h.cell 1).trans rfl
  obtain ⟨s, bad⟩ := r
  simp only at c0 c1 ⊢
  cases bad with
  | true =>
    have hf : (Rs.mk s true).fin = 1 := rfl
    rw [hf]
    go_enter Try.func43, Try.ntmps43
    go_wp2
    go_ret
    exact ⟨rfl, rfl⟩
  | false =>
    by_cases hs : s.size = 0
    · have hf : (Rs.mk s false).fin = 0 := by simp [Rs.fin, hs]
      rw [hf]
      have e1 : s = ⟨#[]⟩ := by
        apply ByteArray.ext
        exact Array.eq_empty_of_size_eq_zero hs
      subst e1
      clear hf
      go_enter Try.func43, Try.ntmps43
      go_wp2
      go_ret
      exact ⟨rfl, rfl⟩
    · have hf : (Rs.mk s false).fin = 3 := by simp [Rs.fin, hs]
      rw [hf]
      have hne := toList_some hs
      go_enter Try.func43, Try.ntmps43
      go_wp2
      go_ret
      exact ⟨rfl, rfl⟩

theorem Rs.tk_size (r : Rs) (n : Nat) : (r.tk n).size ≤ n := by
  unfold Rs.tk; split
  · simp [ByteArray.size]
  · simp [ByteArray.size_extract]; omega
theorem rbyte_any {w : World} {b : Nat} {r : Rs} (h : Re w b r.s r.bad) :
    Calls Try.prog 41 #[.pointer (some ⟨b, 0, none⟩)] w fun e w' => e = .returned (.int .i64 (val (bytesOf (r.tk 1)))) ∧ Re w' b (r.aft 1).s (r.aft 1).bad ∧ Fr (fun k => k = b) w w' := by
  have K := number_any h 1 (by omega)
  go_enter Try.func41, Try.ntmps41
  go_wp2_with (go_at_call 66; refine K.mono ?_; rintro e w1 ⟨rfl, hw1, hf1⟩)
  go_ret
  exact ⟨rfl, hw1, hf1⟩
theorem rlong_any {w : World} {b : Nat} {r : Rs} (h : Re w b r.s r.bad) :
    Calls Try.prog 42 #[.pointer (some ⟨b, 0, none⟩)] w fun e w' => e = .returned (.int .i64 (val (bytesOf (r.tk 4)))) ∧ Re w' b (r.aft 4).s (r.aft 4).bad ∧ Fr (fun k => k = b) w w' := by
  have K := number_any h 4 (by omega)
  go_enter Try.func42, Try.ntmps42
  go_wp2_with (go_at_call 66; refine K.mono ?_; rintro e w1 ⟨rfl, hw1, hf1⟩)
  go_ret
  exact ⟨rfl, hw1, hf1⟩

end Go.Proofs.Ytmohefkingnknaa.Pa

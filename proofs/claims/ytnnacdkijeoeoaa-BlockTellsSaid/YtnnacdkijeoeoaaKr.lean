/- Contracts and plain mathematics of earlier stages: Rcheck. -/
import Derived.Test.YtnnacdkijeoeoaaKu
import Derived.Test.YtnnacdkijeoeoaaKa
namespace Go.Proofs.Ytnnacdkijeoeoaa
open Go.RowKit

theorem lineIn_take {l : List Sec} {j k : Nat} (hk : k < j) (hj : j ≤ l.length) (ln : Int) : lineIn ln ((l.take j).drop k) = ((l[k]'(by omega)).line == ln || lineIn ln ((l.take j).drop (k + 1))) := by
  rw [List.drop_eq_getElem_cons (by rw [List.length_take]; omega), lineIn, List.getElem_take]
theorem take_snoc' {l : List Sec} {j : Nat} (hj : j < l.length) : l.take j ++ [l[j]] = l.take (j + 1) := by
  rw [List.take_succ_eq_append_getElem hj]
theorem size_tests {l : List Sec} {js : List Jo} : (sizesB l js = true ∧ 1 ≤ l.length ∧ l.length ≤ 16 ∧ js.length ≤ 24) ∨ (sizesB l js = false ∧ l.length < 1) ∨ (sizesB l js = false ∧ 1 ≤ l.length ∧ 16 < l.length) ∨ (sizesB l js = false ∧ 1 ≤ l.length ∧ l.length ≤ 16 ∧ 24 < js.length) := by
  unfold sizesB
  by_cases h1 : 1 ≤ l.length
  · by_cases h2 : l.length ≤ 16
    · by_cases h3 : js.length ≤ 24
      · exact .inl ⟨by simp [h1, h2, h3], h1, h2, h3⟩
      · exact .inr (.inr (.inr ⟨by simp [h3], h1, h2, by omega⟩))
    · exact .inr (.inr (.inl ⟨by simp [h2], h1, by omega⟩))
  · exact .inr (.inl ⟨by simp; omega, by omega⟩)

end Go.Proofs.Ytnnacdkijeoeoaa


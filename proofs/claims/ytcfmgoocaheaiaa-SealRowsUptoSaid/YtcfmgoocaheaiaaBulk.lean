/- What the bound of the second form says of a slice of texts: how many there are, how long they are, and all together. -/
import Derived.Test.YtcfmgoocaheaiaaTexts
import Derived.Test.YtcfmgoocaheaiaaSum
namespace Go.Proofs.Ytcfmgoocaheaiaa
open Go.RowKit Go.ChangeShapes Go.WideShapes Go.ChangeAt

theorem bulk_texts {H : Type} (l : List ByteArray) : l.length ≤ Rows.uptoBulkAll (H := H) (strs l) ∧ (∀ x ∈ l, x.size ≤ Rows.uptoBulkAll (H := H) (strs l)) ∧ (jn l).length ≤ Rows.uptoBulkAll (H := H) (strs l) := by
  induction l with
  | nil => simp [strs, jn, Rows.uptoBulkAll]
  | cons x l ih =>
    have e : x.data.toList.length = x.size := by rw [Array.length_toList]; rfl
    have hj : (jn (x :: l)).length = x.size + (jn l).length := by
      show (bytesOf x ++ jn l).length = _
      rw [List.length_append, bytesOf_length]
    have hs : Rows.uptoBulkAll (H := H) (strs (x :: l)) = Rows.uptoBulk (H := H) (.lit (.string x.data.toList)) + Rows.uptoBulkAll (strs l) := rfl
    have hb : Rows.uptoBulk (H := H) (.lit (.string x.data.toList)) = x.size + 1 := by
      simp only [Rows.uptoBulk, e]
    rw [hs, hb, hj, List.length_cons]
    refine ⟨by omega, fun y hy => ?_, by omega⟩
    rcases List.mem_cons.1 hy with rfl | hy
    · omega
    · have := ih.2.1 y hy; omega
theorem small_texts1 {H : Type} {d0 : DataW H} {l : List ByteArray} (hk : Rows.uptoSmall H [d0] = true) (hd : (d0 = .nil ∧ l = []) ∨ ∃ rest, d0 = .slice (strs l) rest) : l.length ≤ 1048576 ∧ (∀ x ∈ l, x.size ≤ 1048576) ∧ (jn l).length ≤ 1048576 := by
  have h : Rows.uptoBulkAll [d0] ≤ 1048576 := of_decide_eq_true hk
  rcases hd with ⟨_, rfl⟩ | ⟨rest, rfl⟩
  · simp [jn]
  · obtain ⟨h1, h2, h3⟩ := bulk_texts (H := H) l
    simp only [Rows.uptoBulkAll, Rows.uptoBulk] at h
    refine ⟨by omega, fun x hx => ?_, by omega⟩
    have := h2 x hx
    omega
theorem small_texts3 {H : Type} {d0 d1 d2 : DataW H} {l : List ByteArray} (hk : Rows.uptoSmall H [d0, d1, d2] = true) (hd : (d0 = .nil ∧ l = []) ∨ ∃ rest, d0 = .slice (strs l) rest) : l.length ≤ 1048576 ∧ (∀ x ∈ l, x.size ≤ 1048576) ∧ (jn l).length ≤ 1048576 := by
  have h : Rows.uptoBulkAll [d0, d1, d2] ≤ 1048576 := of_decide_eq_true hk
  rcases hd with ⟨_, rfl⟩ | ⟨rest, rfl⟩
  · simp [jn]
  · obtain ⟨h1, h2, h3⟩ := bulk_texts (H := H) l
    simp only [Rows.uptoBulkAll, Rows.uptoBulk] at h
    refine ⟨by omega, fun x hx => ?_, by omega⟩
    have := h2 x hx
    omega
theorem small_string1 {H : Type} {d0 d2 : DataW H} {s : ByteArray} (hk : Rows.uptoSmall H [d0, .lit (.string s.data.toList), d2] = true) : s.size ≤ 1048576 := by
  have h : Rows.uptoBulkAll [d0, .lit (.string s.data.toList), d2] ≤ 1048576 := of_decide_eq_true hk
  have e : s.data.toList.length = s.size := by rw [Array.length_toList]; rfl
  simp only [Rows.uptoBulkAll, Rows.uptoBulk, e] at h
  omega
end Go.Proofs.Ytcfmgoocaheaiaa

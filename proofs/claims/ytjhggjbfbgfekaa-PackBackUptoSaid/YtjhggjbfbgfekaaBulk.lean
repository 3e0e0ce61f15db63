/- What the bound of the second form says of a slice of things: how many there are, and how long their texts. -/
import Derived.Test.YtjhggjbfbgfekaaThings
namespace Go.Proofs.Ytjhggjbfbgfekaa
open Go.RowKit

theorem bulk_thing {H : Type} (t : Thing) : Rows.uptoBulk (H := H) t.data = t.x.size + 4 := by
  have e : t.x.data.toList.length = t.x.size := by rw [Array.length_toList]; rfl
  simp only [Thing.data, Rows.uptoBulk, Rows.uptoBulkAll, e]
  omega
theorem bulk_things {H : Type} (l : List Thing) : l.length ≤ Rows.uptoBulkAll (H := H) (l.map Thing.data) ∧ ∀ t ∈ l, t.x.size ≤ Rows.uptoBulkAll (H := H) (l.map Thing.data) := by
  induction l with
  | nil => simp [Rows.uptoBulkAll]
  | cons t l ih =>
    have hb := bulk_thing (H := H) t
    simp only [List.map_cons, Rows.uptoBulkAll, List.length_cons]
    refine ⟨by omega, fun u hu => ?_⟩
    rcases List.mem_cons.1 hu with rfl | hu
    · omega
    · have := ih.2 u hu; omega
theorem small_things {H : Type} {d0 d1 : DataW H} {l : List Thing} (hk : Rows.uptoSmall H [d0, d1] = true) (hd : (d1 = .nil ∧ l = []) ∨ ∃ rest, d1 = .slice (l.map Thing.data) rest) : l.length ≤ 1048576 ∧ ∀ t ∈ l, t.x.size ≤ 1048576 := by
  have h : Rows.uptoBulkAll [d0, d1] ≤ 1048576 := of_decide_eq_true hk
  rcases hd with ⟨_, rfl⟩ | ⟨rest, rfl⟩
  · simp
  · obtain ⟨h1, h2⟩ := bulk_things (H := H) l
    simp only [Rows.uptoBulkAll, Rows.uptoBulk] at h
    refine ⟨by omega, fun t ht => ?_⟩
    have := h2 t ht
    omega
end Go.Proofs.Ytjhggjbfbgfekaa

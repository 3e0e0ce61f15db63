/- Contracts and plain mathematics of earlier stages: Lopen. -/
import Derived.Test.YtnnacdkijeoeoaaLnew
import Derived.Test.YtnnacdkijeoeoaaLcoldp
namespace Go.Proofs.Ytnnacdkijeoeoaa.Lk
open Go.RowKit

def freeM (_ : Int) : Int := 0
theorem bx_own1 {w0 v : World} {kb g j : Nat} {K : Km} {l : List Int} (h : Bx w0 v kb { K with own := fillP freeM (-1) l j }) (hB : K.A1 = some ⟨g, 0, none⟩) (hj : j < l.length) :
    Hid (Bx w0 (v.setCell ⟨g, j, none⟩ (.int .i64 0)) kb { K with own := fillP freeM (-1) l (j + 1) }) ∧ v.cell? ⟨kb, 0, none⟩ = some (.slice (some ⟨g, 0, none⟩) l.length K.c1) ∧ (∃ u, v.cell? ⟨g, j, none⟩ = some u) ∧ v.frozen? ⟨g, j, none⟩ = false := by
  have hlen := fillP_len freeM (-1) l j (by omega)
  have b := h.owner (K := { K with own := fillP freeM (-1) l j }) (j := j) (by show j < (fillP _ _ _ _).length; omega) hB 0
  refine ⟨Lib.hid ?_, ?_, ?_⟩
  · rw [← fillP_set freeM (-1) l j hj]
    exact b
  · have c := h.is.cell 0
    simpa [Km.arr, hB, hlen] using c
  · have o' : v.ownsRow w0.heap.size 3 1 (.slice (some ⟨g, 0, none⟩) (fillP freeM (-1) l j).length K.c1) (fillP freeM (-1) l j).length ((fillP freeM (-1) l j).map (Value.int .i64)) := by
      have o2 : v.ownsRow w0.heap.size 3 1 (.slice K.A1 (fillP freeM (-1) l j).length K.c1) (fillP freeM (-1) l j).length ((fillP freeM (-1) l j).map (Value.int .i64)) := h.own.own
      rw [hB] at o2; exact o2
    obtain ⟨g', o9, e9, c0⟩ := rd_int (wide_rd o') (j := j) (by omega)
    injection e9 with e9
    injection e9 with e1 e2
    subst e1 e2
    simp only [Nat.zero_add] at c0
    exact ⟨⟨_, c0⟩, o'.frozenAt _⟩
end Go.Proofs.Ytnnacdkijeoeoaa.Lk


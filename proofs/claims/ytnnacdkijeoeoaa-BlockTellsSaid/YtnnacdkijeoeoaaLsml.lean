/- Small facts of right stations and of states that fit. -/
import Derived.Test.YtnnacdkijeoeoaaLplain
import Derived.Test.YtnnacdkijeoeoaaLm
namespace Go.Proofs.Ytnnacdkijeoeoaa.Lk
open Go.RowKit

theorem right_small {c : Cf} (h : checkE c = 0) : c.secs.length ≤ 24 ∧ c.crs.length ≤ 4 ∧ c.rts.length ≤ 12 := by
  obtain ⟨h1, -, h3, h4, -, -⟩ := check_parts h
  unfold checkB at h1
  rw [Bool.and_eq_true] at h1
  rw [Bool.and_eq_true, decide_eq_true_eq] at h3
  have := (sizes_short h1.1).2.1
  exact ⟨by omega, h3.1, h4⟩
/-- a state that fits can be read, wherever it lies -/
theorem fit_ok {B : Nat} {w : World} {K : Km} {c : Cf} (ho : K.Own B w) (h : FitP c K.kp) : K.Ok w := by
  obtain ⟨a, b, d⟩ := right_small h.chk
  have l1 : K.own.length = c.secs.length := h.l1
  have l2 : K.rts.length = c.rts.length := h.l2
  have l3 : K.pts.length = c.secs.length := h.l3
  have l4 : K.crs.length = c.crs.length := h.l4
  have l5 : K.lns.length = 4 := h.l5
  have l6 : K.rss.length = c.secs.length := h.l6
  exact ho.ok (by omega) (by omega) (by omega) (by omega) (by omega) (by omega)
theorem gate_fit {c : Cf} {k : Kp} (h : FitP c k) (x : Kp × Int) : gateM c k true x = x := by
  unfold gateM
  rw [fits_iff.2 h, if_neg (by decide), if_neg (by decide)]
end Go.Proofs.Ytnnacdkijeoeoaa.Lk

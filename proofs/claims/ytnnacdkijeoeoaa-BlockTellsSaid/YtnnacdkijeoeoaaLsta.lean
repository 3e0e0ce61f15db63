/- One thing of a state is stored, whole. -/
import Derived.Test.YtnnacdkijeoeoaaLcop
import Derived.Test.YtnnacdkijeoeoaaLp
namespace Go.Proofs.Ytnnacdkijeoeoaa.Lk
open Go.RowKit

theorem sec_iff {n : Nat} {s : Int} (h : isSecB n s = true) : 0 ≤ s ∧ s < n := by
  unfold isSecB at h
  simpa using h
/-! ### A thing of a state is stored whole -/
section
variable {B : Nat} {w : World} {K : Km}
theorem own_route (h : K.Own B w) {j g : Nat} (hj : j < K.rts.length) (hA : K.A2 = some ⟨g, 0, none⟩) (x : Rs) :
    ({ K with rts := K.rts.set j x } : Km).Own B ((((w.setCell ⟨g, j * 4, none⟩ (.int .i64 x.st)).setCell ⟨g, j * 4 + 1, none⟩ (.int .i64 x.since)).setCell ⟨g, j * 4 + 2, none⟩ (.int .i64 x.nxt)).setCell ⟨g, j * 4 + 3, none⟩ (.int .i64 x.mark)) := by
  obtain ⟨a, b, c, d⟩ := x
  obtain ⟨g0, e0, _, _, _, _, h0⟩ := h.set2 hj (k := 0) (by decide) a ⟨a, K.rts[j].since, K.rts[j].nxt, K.rts[j].mark⟩ rfl
  obtain ⟨g1, e1, _, _, _, _, h1⟩ := h0.set2 (j := j) (k := 1) (by simpa using hj) (by decide) b ⟨a, b, K.rts[j].nxt, K.rts[j].mark⟩ (by simp [cRs])
  obtain ⟨g2, e2, _, _, _, _, h2⟩ := h1.set2 (j := j) (k := 2) (by simpa using hj) (by decide) c ⟨a, b, c, K.rts[j].mark⟩ (by simp [cRs])
  obtain ⟨g3, e3, _, _, _, _, h3⟩ := h2.set2 (j := j) (k := 3) (by simpa using hj) (by decide) d ⟨a, b, c, d⟩ (by simp [cRs])
  have f0 : g0 = g := by rw [hA] at e0; injection e0 with e; injection e with e; exact e.symm
  have f1 : g1 = g := by rw [show ({ K with rts := K.rts.set j ⟨a, K.rts[j].since, K.rts[j].nxt, K.rts[j].mark⟩ } : Km).A2 = K.A2 from rfl, hA] at e1; injection e1 with e; injection e with e; exact e.symm
  have f2 : g2 = g := by have e2 : K.A2 = some ⟨g2, 0, none⟩ := e2; rw [hA] at e2; injection e2 with e; injection e with e; exact e.symm
  have f3 : g3 = g := by have e3 : K.A2 = some ⟨g3, 0, none⟩ := e3; rw [hA] at e3; injection e3 with e; injection e with e; exact e.symm
  subst f0 f1 f2 f3
  simpa only [List.set_set, Nat.add_zero] using h3
theorem own_point (h : K.Own B w) {j g : Nat} (hj : j < K.pts.length) (hA : K.A3 = some ⟨g, 0, none⟩) (x : Mo) :
    ({ K with pts := K.pts.set j x } : Km).Own B ((w.setCell ⟨g, j * 2, none⟩ (.int .i64 x.cmd)).setCell ⟨g, j * 2 + 1, none⟩ (.int .i64 x.oth)) := by
  obtain ⟨a, b⟩ := x
  obtain ⟨g0, e0, _, _, _, _, h0⟩ := h.set3 hj (k := 0) (by decide) a ⟨a, K.pts[j].oth⟩ rfl
  obtain ⟨g1, e1, _, _, _, _, h1⟩ := h0.set3 (j := j) (k := 1) (by simpa using hj) (by decide) b ⟨a, b⟩ (by simp [cMo])
  have f0 : g0 = g := by rw [hA] at e0; injection e0 with e; injection e with e; exact e.symm
  have f1 : g1 = g := by have e1 : K.A3 = some ⟨g1, 0, none⟩ := e1; rw [hA] at e1; injection e1 with e; injection e with e; exact e.symm
  subst f0 f1
  simpa only [List.set_set, Nat.add_zero] using h1
theorem own_cross (h : K.Own B w) {j g : Nat} (hj : j < K.crs.length) (hA : K.A4 = some ⟨g, 0, none⟩) (x : Mo) :
    ({ K with crs := K.crs.set j x } : Km).Own B ((w.setCell ⟨g, j * 2, none⟩ (.int .i64 x.cmd)).setCell ⟨g, j * 2 + 1, none⟩ (.int .i64 x.oth)) := by
  obtain ⟨a, b⟩ := x
  obtain ⟨g0, e0, _, _, _, _, h0⟩ := h.set4 hj (k := 0) (by decide) a ⟨a, K.crs[j].oth⟩ rfl
  obtain ⟨g1, e1, _, _, _, _, h1⟩ := h0.set4 (j := j) (k := 1) (by simpa using hj) (by decide) b ⟨a, b⟩ (by simp [cMo])
  have f0 : g0 = g := by rw [hA] at e0; injection e0 with e; injection e with e; exact e.symm
  have f1 : g1 = g := by have e1 : K.A4 = some ⟨g1, 0, none⟩ := e1; rw [hA] at e1; injection e1 with e; injection e with e; exact e.symm
  subst f0 f1
  simpa only [List.set_set, Nat.add_zero] using h1
end
end Go.Proofs.Ytnnacdkijeoeoaa.Lk

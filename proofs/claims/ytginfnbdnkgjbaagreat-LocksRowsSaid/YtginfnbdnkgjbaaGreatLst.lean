/- The copy of a state on which a call works, behind its address; what a store leaves of it. -/
import Derived.Test.YtginfnbdnkgjbaaGreatLcop
namespace Go.Proofs.YtginfnbdnkgjbaaGreat.Lk
open Go.RowKit

/-! ### A thing of a state is stored whole -/
section
variable {B : Nat} {w : World} {K : Km}
theorem own_route (h : K.Own B w) {j g : Nat} (hj : j < K.rts.length) (hA : K.A2 = some ⟨g, 0, none⟩) (x : Rs) :
    ({ K with rts := K.rts.set j x } : Km).Own B ((((w.setCell ⟨g, j * 4, none⟩ (.int .i64 x.st)).setCell ⟨g, j * 4 + 1, none⟩ (.int .i64 x.since)).setCell ⟨g, j * 4 + 2, none⟩ (.int .i64 x.nxt)).setCell ⟨g, j * 4 + 3, none⟩ (.int .i64 x.mark)) := by
  obtain ⟨a, b, c, d⟩ := x
  obtain ⟨g0, e0, _, _, _, _, h0⟩ := h.set2 hj (k := 0) (by decide) a ⟨a, K.rts[j].since, K.rts[j].nxt, K.rts[j].mark⟩ rfl
  obtain ⟨g1, e1, _, _, _, _, h1⟩ := h0.set2 (j := j) (k := 1) (by simpa using hj) (by decide) b ⟨a, b, K.rts[j].nxt, K.rts[j].mark⟩ (by simp [cRs])
  obtain ⟨g2, e2, _, _, _, _, h2⟩ := h1.set2 (j := j) (k := 2) (by simpa using hj) (by decide) c ⟨a, b, c, K.rts[j].mark⟩ (by simp [cRs])
  obtain ⟨g3, e3, _, _, _, _, h3⟩ := h2.set2 (j := j) (k := 3) (by simpa using hj) (by decide) d ⟨a, b, c, d⟩ (by simp [cRs])
  have f0 : g0 = g := by rw [hA] at e0; injection e0 with e; injection e with e; exact e.symm
  have f1 : g1 = g := by rw [show ({ K with rts := K.rts.set j ⟨a, K.rts[j].since, K.rts[j].nxt, K.rts[j].mark⟩ } : Km).A2 = K.A2 from rfl, hA] at e1; injection e1 with e; injection e with e; exact e.symm
  have f2 : g2 = g := by have e2 : K.A2 = some ⟨g2, 0, none⟩ := e2; rw [hA] at e2; injection e2 with e; injection e with e; exact e.symm
  have f3 : g3 = g := by have e3 : K.A2 = some ⟨g3, 0, none⟩ := e3; rw [hA] at e3; injection e3 with e; injection e with e; exact e.symm
  subst f0 f1 f2 f3
  simpa only [List.set_set, Nat.add_zero] using h3
theorem own_point (h : K.Own B w) {j g : Nat} (hj : j < K.pts.length) (hA : K.A3 = some ⟨g, 0, none⟩) (x : Mo) :
    ({ K with pts := K.pts.set j x } : Km).Own B ((w.setCell ⟨g, j * 2, none⟩ (.int .i64 x.cmd)).setCell ⟨g, j * 2 + 1, none⟩ (.int .i64 x.oth)) := by
  obtain ⟨a, b⟩ := x
  obtain ⟨g0, e0, _, _, _, _, h0⟩ := h.set3 hj (k := 0) (by decide) a ⟨a, K.pts[j].oth⟩ rfl
  obtain ⟨g1, e1, _, _, _, _, h1⟩ := h0.set3 (j := j) (k := 1) (by simpa using hj) (by decide) b ⟨a, b⟩ (by simp [cMo])
  have f0 : g0 = g := by rw [hA] at e0; injection e0 with e; injection e with e; exact e.symm
  have f1 : g1 = g := by have e1 : K.A3 = some ⟨g1, 0, none⟩ := e1; rw [hA] at e1; injection e1 with e; injection e with e; exact e.symm
  subst f0 f1
  simpa only [List.set_set, Nat.add_zero] using h1
theorem own_cross (h : K.Own B w) {j g : Nat} (hj : j < K.crs.length) (hA : K.A4 = some ⟨g, 0, none⟩) (x : Mo) :
    ({ K with crs := K.crs.set j x } : Km).Own B ((w.setCell ⟨g, j * 2, none⟩ (.int .i64 x.cmd)).setCell ⟨g, j * 2 + 1, none⟩ (.int .i64 x.oth)) := by
  obtain ⟨a, b⟩ := x
  obtain ⟨g0, e0, _, _, _, _, h0⟩ := h.set4 hj (k := 0) (by decide) a ⟨a, K.crs[j].oth⟩ rfl
  obtain ⟨g1, e1, _, _, _, _, h1⟩ := h0.set4 (j := j) (k := 1) (by simpa using hj) (by decide) b ⟨a, b⟩ (by simp [cMo])
  have f0 : g0 = g := by rw [hA] at e0; injection e0 with e; injection e with e; exact e.symm
  have f1 : g1 = g := by have e1 : K.A4 = some ⟨g1, 0, none⟩ := e1; rw [hA] at e1; injection e1 with e; injection e with e; exact e.symm
  subst f0 f1
  simpa only [List.set_set, Nat.add_zero] using h1
end

/-- the sixteen cells of a copy: the state, and the configuration that it fits -/
def stArr (K : Km) (C : Cm) : Array Value := #[.slice K.A1 K.own.length K.c1, .slice K.A2 K.rts.length K.c2, .slice K.A3 K.pts.length K.c3, .slice K.A4 K.crs.length K.c4, .slice K.A5 K.lns.length K.c5, .slice K.A6 K.rss.length K.c6, .bool K.dirty,
  .slice C.A1 C.l.length C.c1, .slice C.A2 C.js.length C.c2, .slice C.A3 C.sg.length C.c3, .slice C.A4 C.cr.length C.c4, .slice C.A5 C.rs.length C.c5, .int .i64 C.tm.age, .int .i64 C.tm.brake, .int .i64 C.tm.hold, .int .i64 C.tm.budget]
/-- the copy behind its address, all made since w0 -/
structure St (w0 w : World) (sb : Nat) (K : Km) (C : Cm) : Prop where
  is : Is w sb 183 (stArr K C)
  own : K.Own w0.heap.size w
  f : Fr (fun _ => False) w0 w
  hb : w0.heap.size ≤ sb
namespace St
variable {w0 w : World} {sb : Nat} {K : Km} {C : Cm}
theorem no (h : St w0 w sb K C) : ¬ K.at sb := h.own.ne_is h.is (by decide) (by decide) (by decide) (by decide)
theorem fr {w1 : World} (h : St w0 w sb K C) (f : Fr (fun _ => False) w w1) : St w0 w1 sb K C := ⟨h.is.fr f id, h.own.fr f fun _ _ => id, h.f.trans f fun _ _ e => e, h.hb⟩
theorem same {w1 : World} (h : St w0 w sb K C) (e : w = w1) : St w0 w1 sb K C := e ▸ h
theorem drew (h : St w0 w sb K C) : St w0 w.drew sb K C := h.fr (Fr.refl _ _).drew
theorem drewN (h : St w0 w sb K C) (n : Nat) : St w0 (w.drewN n) sb K C := h.fr ((Fr.refl _ _).drewN n)
theorem route (h : St w0 w sb K C) {j g : Nat} (hj : j < K.rts.length) (hA : K.A2 = some ⟨g, 0, none⟩) (x : Rs) :
    St w0 ((((w.setCell ⟨g, j * 4, none⟩ (.int .i64 x.st)).setCell ⟨g, j * 4 + 1, none⟩ (.int .i64 x.since)).setCell ⟨g, j * 4 + 2, none⟩ (.int .i64 x.nxt)).setCell ⟨g, j * 4 + 3, none⟩ (.int .i64 x.mark)) sb { K with rts := K.rts.set j x } C := by
  have hk : K.at g := .inr (.inl (by rw [hA]; rfl))
  have hg := (h.own.lt g hk).1
  have hne : ¬ sb = g := fun e => h.no (e ▸ hk)
  refine ⟨?_, own_route h.own hj hA x, ((((h.f.setCell (p := ⟨g, j * 4, none⟩) (.inr hg) _).setCell (p := ⟨g, j * 4 + 1, none⟩) (.inr hg) _).setCell (p := ⟨g, j * 4 + 2, none⟩) (.inr hg) _).setCell (p := ⟨g, j * 4 + 3, none⟩) (.inr hg) _), h.hb⟩
  have := (((h.is.far (p := ⟨g, j * 4, none⟩) hne (.int .i64 x.st)).far (p := ⟨g, j * 4 + 1, none⟩) hne (.int .i64 x.since)).far (p := ⟨g, j * 4 + 2, none⟩) hne (.int .i64 x.nxt)).far (p := ⟨g, j * 4 + 3, none⟩) hne (.int .i64 x.mark)
  unfold stArr at this ⊢
  simpa only [List.length_set] using this
/-- one cell of a route's state -/
theorem route1 (h : St w0 w sb K C) {j g : Nat} (hj : j < K.rts.length) (hA : K.A2 = some ⟨g, 0, none⟩) (s : Int) : St w0 (w.setCell ⟨g, j * 4, none⟩ (.int .i64 s)) sb { K with rts := K.rts.set j { K.rts[j] with st := s } } C := by
  have hk : K.at g := .inr (.inl (by rw [hA]; rfl))
  have hg := (h.own.lt g hk).1
  have hne : ¬ sb = g := fun e => h.no (e ▸ hk)
  obtain ⟨g0, e0, _, _, _, _, h0⟩ := h.own.set2 hj (k := 0) (by decide) s { K.rts[j] with st := s } rfl
  have f0 : g0 = g := by rw [hA] at e0; injection e0 with e; injection e with e; exact e.symm
  subst f0
  rw [Nat.add_zero] at h0
  refine ⟨?_, h0, h.f.setCell (p := ⟨g0, j * 4, none⟩) (.inr hg) _, h.hb⟩
  have := h.is.far (p := ⟨g0, j * 4, none⟩) hne (.int .i64 s)
  unfold stArr at this ⊢
  simpa only [List.length_set] using this
theorem point (h : St w0 w sb K C) {j g : Nat} (hj : j < K.pts.length) (hA : K.A3 = some ⟨g, 0, none⟩) (x : Mo) :
    St w0 ((w.setCell ⟨g, j * 2, none⟩ (.int .i64 x.cmd)).setCell ⟨g, j * 2 + 1, none⟩ (.int .i64 x.oth)) sb { K with pts := K.pts.set j x } C := by
  have hk : K.at g := .inr (.inr (.inl (by rw [hA]; rfl)))
  have hg := (h.own.lt g hk).1
  have hne : ¬ sb = g := fun e => h.no (e ▸ hk)
  refine ⟨?_, own_point h.own hj hA x, ((h.f.setCell (p := ⟨g, j * 2, none⟩) (.inr hg) _).setCell (p := ⟨g, j * 2 + 1, none⟩) (.inr hg) _), h.hb⟩
  have := (h.is.far (p := ⟨g, j * 2, none⟩) hne (.int .i64 x.cmd)).far (p := ⟨g, j * 2 + 1, none⟩) hne (.int .i64 x.oth)
  unfold stArr at this ⊢
  simpa only [List.length_set] using this
theorem cross (h : St w0 w sb K C) {j g : Nat} (hj : j < K.crs.length) (hA : K.A4 = some ⟨g, 0, none⟩) (x : Mo) :
    St w0 ((w.setCell ⟨g, j * 2, none⟩ (.int .i64 x.cmd)).setCell ⟨g, j * 2 + 1, none⟩ (.int .i64 x.oth)) sb { K with crs := K.crs.set j x } C := by
  have hk : K.at g := .inr (.inr (.inr (.inl (by rw [hA]; rfl))))
  have hg := (h.own.lt g hk).1
  have hne : ¬ sb = g := fun e => h.no (e ▸ hk)
  refine ⟨?_, own_cross h.own hj hA x, ((h.f.setCell (p := ⟨g, j * 2, none⟩) (.inr hg) _).setCell (p := ⟨g, j * 2 + 1, none⟩) (.inr hg) _), h.hb⟩
  have := (h.is.far (p := ⟨g, j * 2, none⟩) hne (.int .i64 x.cmd)).far (p := ⟨g, j * 2 + 1, none⟩) hne (.int .i64 x.oth)
  unfold stArr at this ⊢
  simpa only [List.length_set] using this
theorem owner (h : St w0 w sb K C) {j g : Nat} (hj : j < K.own.length) (hA : K.A1 = some ⟨g, 0, none⟩) (x : Int) : St w0 (w.setCell ⟨g, j, none⟩ (.int .i64 x)) sb { K with own := K.own.set j x } C := by
  have hk : K.at g := .inl (by rw [hA]; rfl)
  have hg := (h.own.lt g hk).1
  have hne : ¬ sb = g := fun e => h.no (e ▸ hk)
  obtain ⟨g0, e0, _, _, _, _, h0⟩ := h.own.set1 hj x
  have f0 : g0 = g := by rw [hA] at e0; injection e0 with e; injection e with e; exact e.symm
  subst f0
  refine ⟨?_, h0, h.f.setCell (p := ⟨g0, j, none⟩) (.inr hg) _, h.hb⟩
  have := h.is.far (p := ⟨g0, j, none⟩) hne (.int .i64 x)
  unfold stArr at this ⊢
  simpa only [List.length_set] using this
theorem due (h : St w0 w sb K C) {j g : Nat} (hj : j < K.rss.length) (hA : K.A6 = some ⟨g, 0, none⟩) (x : Int) : St w0 (w.setCell ⟨g, j, none⟩ (.int .i64 x)) sb { K with rss := K.rss.set j x } C := by
  have hk : K.at g := .inr (.inr (.inr (.inr (.inr (by rw [hA]; rfl)))))
  have hg := (h.own.lt g hk).1
  have hne : ¬ sb = g := fun e => h.no (e ▸ hk)
  obtain ⟨g0, e0, _, _, _, _, h0⟩ := h.own.set6 hj x
  have f0 : g0 = g := by rw [hA] at e0; injection e0 with e; injection e with e; exact e.symm
  subst f0
  refine ⟨?_, h0, h.f.setCell (p := ⟨g0, j, none⟩) (.inr hg) _, h.hb⟩
  have := h.is.far (p := ⟨g0, j, none⟩) hne (.int .i64 x)
  unfold stArr at this ⊢
  simpa only [List.length_set] using this
theorem asked (h : St w0 w sb K C) {j g : Nat} (hj : j < K.lns.length) (hA : K.A5 = some ⟨g, 0, none⟩) (x : Int) : St w0 (w.setCell ⟨g, j * 8, none⟩ (.int .i64 x)) sb { K with lns := K.lns.set j { K.lns[j] with ask := x } } C := by
  have hk : K.at g := .inr (.inr (.inr (.inr (.inl (by rw [hA]; rfl)))))
  have hg := (h.own.lt g hk).1
  have hne : ¬ sb = g := fun e => h.no (e ▸ hk)
  obtain ⟨g0, e0, _, _, _, _, h0⟩ := h.own.set5 hj (k := 0) (by decide) x { K.lns[j] with ask := x } rfl
  have f0 : g0 = g := by rw [hA] at e0; injection e0 with e; injection e with e; exact e.symm
  subst f0
  rw [Nat.add_zero] at h0
  refine ⟨?_, h0, h.f.setCell (p := ⟨g0, j * 8, none⟩) (.inr hg) _, h.hb⟩
  have := h.is.far (p := ⟨g0, j * 8, none⟩) hne (.int .i64 x)
  unfold stArr at this ⊢
  simpa only [List.length_set] using this
theorem dirt (h : St w0 w sb K C) (b : Bool) : St w0 (w.setCell ⟨sb, 6, none⟩ (.bool b)) sb { K with dirty := b } C :=
by
  have o := h.own.fr ((Fr.refl (fun k => k = sb) w).setCell (p := ⟨sb, 6, none⟩) (.inl rfl) (.bool b)) (fun k hk e => h.no (e ▸ hk))
  exact ⟨h.is.set 6 (.bool b), ⟨o.own, o.rts, o.pts, o.crs, o.lns, o.rss, o.d16, o.d34⟩, h.f.setCell (p := ⟨sb, 6, none⟩) (.inr h.hb) _, h.hb⟩
/-- where the copy's lists lie, and their cells -/
theorem at2 (h : St w0 w sb K C) {j : Nat} (hj : j < K.rts.length) : ∃ g, K.A2 = some ⟨g, 0, none⟩ ∧ w.cell? ⟨g, j * 4, none⟩ = some (.int .i64 K.rts[j].st) ∧ w.cell? ⟨g, j * 4 + 1, none⟩ = some (.int .i64 K.rts[j].since) ∧ w.cell? ⟨g, j * 4 + 2, none⟩ = some (.int .i64 K.rts[j].nxt) ∧ w.cell? ⟨g, j * 4 + 3, none⟩ = some (.int .i64 K.rts[j].mark) ∧
    w.frozen? ⟨g, j * 4, none⟩ = false ∧ w.frozen? ⟨g, j * 4 + 1, none⟩ = false ∧ w.frozen? ⟨g, j * 4 + 2, none⟩ = false ∧ w.frozen? ⟨g, j * 4 + 3, none⟩ = false := by
  obtain ⟨g, hA, _, _⟩ := own_some h.own.rts (by omega)
  have ho := h.own.rts
  obtain ⟨g', o, e, c0, c1, c2, c3⟩ := rd_rs (wide_rd ho) hj
  rw [hA] at ho e
  injection e with e
  injection e with e1 e2
  subst e1 e2
  simp only [Nat.zero_add] at c0 c1 c2 c3
  exact ⟨g, hA, c0, c1, c2, c3, ho.frozenAt _, ho.frozenAt _, ho.frozenAt _, ho.frozenAt _⟩
end St
end Go.Proofs.YtginfnbdnkgjbaaGreat.Lk

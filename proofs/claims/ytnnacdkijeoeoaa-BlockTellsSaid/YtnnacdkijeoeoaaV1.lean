import Derived.Test.YtnnacdkijeoeoaaNm
import Derived.Test.YtnnacdkijeoeoaaLp
import Derived.Test.YtnnacdkijeoeoaaLapp
import Derived.Deep.LoopGhost
import Derived.Deep.RegionHeld3
/- Plain mathematics of the lines: which section is a line's, what a cycle does to each. Nothing here speaks of the program's text. -/
namespace Go.Proofs.Ytnnacdkijeoeoaa.Bk
open Lk Nk

/-- a line's section; -1: none -/
def secP (n : Int) (s : Sec) : Bool := decide (s.line = n)
def secAt (l : List Sec) (n : Int) : Int := Mv.firstP (secP n) l 0
def hasB (l : List Sec) (n : Int) : Bool := decide (1 ≤ n) && decide (0 ≤ secAt l n)
theorem firstP_at {α : Type} (f : α → Bool) : ∀ (l : List α) (k : Nat), 0 ≤ Mv.firstP f l k → ∃ j : Nat, Mv.firstP f l k = (k + j : Nat) ∧ ∃ h : j < l.length, f l[j] = true
  | [], k, h => by unfold Mv.firstP at h; omega
  | x :: r, k, h => by
    unfold Mv.firstP at h ⊢
    by_cases hf : f x = true
    · rw [if_pos hf]
      exact ⟨0, by simp, by simp, by simpa using hf⟩
    · rw [if_neg hf] at h ⊢
      obtain ⟨j, hj, hl, hx⟩ := firstP_at f r (k + 1) h
      exact ⟨j + 1, by rw [hj]; congr 1; omega, by simp; omega, by simpa using hx⟩
theorem sec_at {l : List Sec} {n : Int} (h : hasB l n = true) : ∃ j : Nat, secAt l n = (j : Int) ∧ ∃ hj : j < l.length, l[j].line = n := by
  unfold hasB secAt at *
  rw [Bool.and_eq_true, decide_eq_true_eq, decide_eq_true_eq] at h
  obtain ⟨j, e, hj, hx⟩ := firstP_at (secP n) l 0 h.2
  refine ⟨j, by rw [e, Nat.zero_add], hj, ?_⟩
  unfold secP at hx
  exact of_decide_eq_true hx
theorem sec_ne {l : List Sec} {n m : Int} (h : hasB l n = true) (h' : hasB l m = true) (hn : n ≠ m) : (secAt l n).toNat ≠ (secAt l m).toNat := by
  obtain ⟨j, e, hj, hx⟩ := sec_at h
  obtain ⟨i, e', hi, hy⟩ := sec_at h'
  rw [e, e', Int.toNat_natCast, Int.toNat_natCast]
  rintro rfl
  exact hn (hx.symm.trans hy)

/-- a line and its section's owner, a cycle further; was the state changed? -/
def one (now : Int) (rc ah : Bool) (look : Lo) (l : Ln) (o : Int) : Ln × Int × Bool :=
  let t : Ln × Int × Bool :=
    if o = -2 then
      if l.pd < l.gr then ({ l with since := 0 }, o, false)
      else if l.since = 0 then ({ l with since := now + 1 }, o, false)
      else if (look.ok && decide (look.val = 0)) = true ∧ l.since ≤ look.stamp then ({ l with since := 0 }, 0, true)
      else (l, o, false)
    else if o = 0 then
      if l.gr < l.pa ∧ l.pd < l.pa ∧ l.ask = l.dn ∧ ah = false then ({ l with gr := l.pa, since := 0 }, -2, true)
      else (l, o, false)
    else (l, o, false)
  (if rc = true then { t.1 with told := l.gr } else t.1, t.2.1, t.2.2)
def lnAt (k : Kp) (n : Int) : Ln := k.lns.getD n.toNat default
def oneAt (c : Cf) (v : Vp) (now : Int) (rc : Bool) (n : Int) (k : Kp) : Ln × Int × Bool :=
  one now rc (aheadB c.sigs c.rts k.rts (secAt c.secs n)) (loAt v.occ (secAt c.secs n)) (lnAt k n) (ownAt k.own (secAt c.secs n))
def putK (n s : Int) (t : Ln × Int × Bool) (k : Kp) : Kp := { k with own := k.own.set s.toNat t.2.1, lns := k.lns.set n.toNat t.1, dirty := k.dirty || t.2.2 }
def lineK (c : Cf) (v : Vp) (now : Int) (rc : Bool) (n : Int) (k : Kp) : Kp :=
  if hasB c.secs n = true then putK n (secAt c.secs n) (oneAt c v now rc n k) k else k
def linesK (c : Cf) (v : Vp) (now : Int) (rc : Bool) (k : Kp) : Nat → Kp
  | 0 => k
  | i + 1 => lineK c v now rc (i : Nat) (linesK c v now rc k i)
structure Bl where
  ask : Int
  dn : Int
  gr : Int
deriving DecidableEq
/-- what is told, and heard -/
def tellM (k : Kp) (n : Int) : Bl := if n < 1 ∨ (k.lns.length : Int) ≤ n then ⟨0, 0, 0⟩ else ⟨(lnAt k n).ask, (lnAt k n).dn, (lnAt k n).told⟩
def hearM (c : Cf) (k : Kp) (n : Int) (b : Bl) : Kp × Int :=
  if fitsB c k = false then (k, 21) else if hasB c.secs n = false then (k, 20) else if (tmB b.ask && (tmB b.dn && tmB b.gr)) = false then (k, 32)
  else ({ k with lns := k.lns.set n.toNat { lnAt k n with pa := b.ask, pd := b.dn, pg := b.gr } }, 0)

/-! ### What the whole cycle leaves of each line -/
section
variable {c : Cf} {v : Vp} {now : Int} {rc : Bool} {k : Kp}
theorem lines_keep : ∀ i : Nat, (linesK c v now rc k i).rts = k.rts ∧ (linesK c v now rc k i).pts = k.pts ∧ (linesK c v now rc k i).crs = k.crs ∧ (linesK c v now rc k i).rss = k.rss ∧ (linesK c v now rc k i).own.length = k.own.length ∧ (linesK c v now rc k i).lns.length = k.lns.length
  | 0 => ⟨rfl, rfl, rfl, rfl, rfl, rfl⟩
  | i + 1 => by
    have h := lines_keep i
    unfold linesK lineK
    by_cases hb : hasB c.secs (i : Int) = true
    · rw [if_pos hb]
      unfold putK
      dsimp only
      rw [List.length_set, List.length_set]
      exact h
    · rw [if_neg hb]
      exact h
theorem lnAt_get {k : Kp} {j : Nat} (hj : j < k.lns.length) : lnAt k j = k.lns[j] := by
  unfold lnAt
  rw [Int.toNat_natCast, List.getD_eq_getElem?_getD, List.getElem?_eq_getElem hj]; rfl
theorem getD_set_ne {α : Type} (l : List α) (d x : α) {i j : Nat} (h : i ≠ j) : (l.set i x).getD j d = l.getD j d := by
  rw [List.getD_eq_getElem?_getD, List.getD_eq_getElem?_getD, List.getElem?_set_ne h]
theorem getD_set_eq {α : Type} (l : List α) (d x : α) {i : Nat} (h : i < l.length) : (l.set i x).getD i d = x := by
  rw [List.getD_eq_getElem?_getD, List.getElem?_set_self h]; rfl
/-- what is behind i is untouched yet -/
theorem lines_ahead {n : Nat} : ∀ i : Nat, i ≤ n → lnAt (linesK c v now rc k i) n = lnAt k n ∧ (hasB c.secs n = true → ownAt (linesK c v now rc k i).own (secAt c.secs n) = ownAt k.own (secAt c.secs n))
  | 0, _ => ⟨rfl, fun _ => rfl⟩
  | i + 1, hi => by
    obtain ⟨h1, h2⟩ := lines_ahead (n := n) i (by omega)
    unfold linesK lineK
    by_cases hb : hasB c.secs (i : Int) = true
    · rw [if_pos hb]
      unfold putK
      refine ⟨?_, fun hn => ?_⟩
      · rw [← h1]
        unfold lnAt
        dsimp only
        rw [Int.toNat_natCast, Int.toNat_natCast]
        exact getD_set_ne _ _ _ (by omega)
      · rw [← h2 hn]
        unfold ownAt
        dsimp only
        exact getD_set_ne _ _ _ (sec_ne hb hn (by omega))
    · rw [if_neg hb]
      exact ⟨h1, h2⟩
theorem lines_at {n : Nat} (hn : hasB c.secs n = true) (hl : n < k.lns.length) (ho : k.own.length = c.secs.length) : ∀ i : Nat, n < i → lnAt (linesK c v now rc k i) n = (oneAt c v now rc n k).1 ∧ ownAt (linesK c v now rc k i).own (secAt c.secs n) = (oneAt c v now rc n k).2.1
  | 0, hi => by omega
  | i + 1, hi => by
    by_cases he : n = i
    · subst he
      obtain ⟨h1, h2⟩ := lines_ahead (c := c) (v := v) (now := now) (rc := rc) (k := k) (n := n) n (Nat.le_refl _)
      have h2 := h2 hn
      obtain ⟨k1, -, -, -, k5, k6⟩ := lines_keep (c := c) (v := v) (now := now) (rc := rc) (k := k) n
      have e : oneAt c v now rc n (linesK c v now rc k n) = oneAt c v now rc n k := by
        unfold oneAt
        rw [h1, h2, k1]
      unfold linesK lineK
      rw [if_pos hn, e]
      unfold putK
      refine ⟨?_, ?_⟩
      · unfold lnAt
        dsimp only
        rw [Int.toNat_natCast]
        exact getD_set_eq _ _ _ (by rw [k6]; exact hl)
      · obtain ⟨j, ej, hj, _⟩ := sec_at hn
        unfold ownAt
        dsimp only
        rw [ej, Int.toNat_natCast]
        exact getD_set_eq _ _ _ (by rw [k5, ho]; exact hj)
    · obtain ⟨h1, h2⟩ := lines_at hn hl ho i (by omega)
      unfold linesK lineK
      by_cases hb : hasB c.secs (i : Int) = true
      · rw [if_pos hb]
        unfold putK
        refine ⟨?_, ?_⟩
        · rw [← h1]
          unfold lnAt
          dsimp only
          rw [Int.toNat_natCast, Int.toNat_natCast]
          exact getD_set_ne _ _ _ (by omega)
        · rw [← h2]
          unfold ownAt
          dsimp only
          exact getD_set_ne _ _ _ (sec_ne hb hn (by omega))
      · rw [if_neg hb]
        exact ⟨h1, h2⟩
end
/-- what the law of a line's cycle asks -/
theorem one_tells {now : Int} {rc ah : Bool} {x : Lo} {l : Ln} {o : Int} :
    ((one now rc ah x l o).1.told ≠ l.told → rc = true ∧ (one now rc ah x l o).1.told = l.gr) ∧
    (o = -2 → (one now rc ah x l o).2.1 ≠ -2 → (one now rc ah x l o).2.1 = 0 ∧ ¬ l.pd < l.gr ∧ l.since ≠ 0 ∧ x.ok = true ∧ x.val = 0 ∧ l.since ≤ x.stamp) ∧
    (o ≠ -2 → (one now rc ah x l o).2.1 = -2 → o = 0 ∧ l.ask = l.dn ∧ l.gr < (one now rc ah x l o).1.gr) := by
  unfold one
  by_cases h1 : o = -2
  · subst h1
    rw [if_pos rfl]
    by_cases h2 : l.pd < l.gr
    · rw [if_pos h2]
      cases rc <;> simp
    · rw [if_neg h2]
      by_cases h3 : l.since = 0
      · rw [if_pos h3]
        cases rc <;> simp
      · rw [if_neg h3]
        by_cases h4 : (x.ok && decide (x.val = 0)) = true ∧ l.since ≤ x.stamp
        · rw [if_pos h4]
          rw [Bool.and_eq_true, decide_eq_true_eq] at h4
          cases rc <;> simp [h2, h3, h4.1.1, h4.1.2, h4.2]
          all_goals omega
        · rw [if_neg h4]
          cases rc <;> simp
  · rw [if_neg h1]
    by_cases h2 : o = 0
    · subst h2
      rw [if_pos rfl]
      by_cases h3 : l.gr < l.pa ∧ l.pd < l.pa ∧ l.ask = l.dn ∧ ah = false
      · rw [if_pos h3]
        cases rc <;> simp [h3.1, h3.2.2.1]
      · rw [if_neg h3]
        cases rc <;> simp
    · rw [if_neg h2]
      cases rc <;> simp [h1]
end Go.Proofs.Ytnnacdkijeoeoaa.Bk
/- A cycle of the lines under way, behind its address; what a store leaves of it. -/
namespace Go.Proofs.Ytnnacdkijeoeoaa.Bk
open Go.RowKit Lk Nk

/-- the 21 cells of a cycle: the state, what is seen, the configuration, was it recorded -/
def byArr (V : Vm) (K : Km) (C : Cm) (rc : Bool) : Array Value := #[.slice K.A1 K.own.length K.c1, .slice K.A2 K.rts.length K.c2, .slice K.A3 K.pts.length K.c3, .slice K.A4 K.crs.length K.c4, .slice K.A5 K.lns.length K.c5, .slice K.A6 K.rss.length K.c6, .bool K.dirty,
  .slice V.A1 V.occ.length V.c1, .slice V.A2 V.pos.length V.c2, .slice V.A3 V.shut.length V.c3, .slice V.A4 V.lamp.length V.c4,
  .slice C.A1 C.l.length C.c1, .slice C.A2 C.js.length C.c2, .slice C.A3 C.sg.length C.c3, .slice C.A4 C.cr.length C.c4, .slice C.A5 C.rs.length C.c5, .int .i64 C.tm.age, .int .i64 C.tm.brake, .int .i64 C.tm.hold, .int .i64 C.tm.budget, .bool rc]
/-- the cycle behind its address, all made since w0 -/
structure By (w0 w : World) (sb : Nat) (V : Vm) (K : Km) (C : Cm) (rc : Bool) : Prop where
  is : Is w sb 69 (byArr V K C rc)
  own : K.Own w0.heap.size w
  f : Fr (fun _ => False) w0 w
  hb : w0.heap.size ≤ sb
  vok : V.Ok w
  cok : C.Ok w
/-- the same lists in memory, with other things in them -/
def bw (K : Km) (k : Kp) : Km := ⟨K.A1, K.c1, k.own, K.A2, K.c2, k.rts, K.A3, K.c3, k.pts, K.A4, K.c4, k.crs, K.A5, K.c5, k.lns, K.A6, K.c6, k.rss, k.dirty⟩
namespace By
variable {w0 w : World} {sb : Nat} {V : Vm} {K : Km} {C : Cm} {rc : Bool}
theorem no (h : By w0 w sb V K C rc) : ¬ K.at sb := h.own.ne_is h.is (by decide) (by decide) (by decide) (by decide)
theorem fr {w1 : World} (h : By w0 w sb V K C rc) (f : Fr (fun _ => False) w w1) : By w0 w1 sb V K C rc := ⟨h.is.fr f id, h.own.fr f fun _ _ => id, h.f.trans f fun _ _ e => e, h.hb, h.vok.fr f, h.cok.fr f⟩
theorem core7 (h : By w0 w sb V K C rc) : w.cell? ⟨sb, 0, none⟩ = some (.slice K.A1 K.own.length K.c1) ∧ w.cell? ⟨sb, 1, none⟩ = some (.slice K.A2 K.rts.length K.c2) ∧ w.cell? ⟨sb, 2, none⟩ = some (.slice K.A3 K.pts.length K.c3) ∧ w.cell? ⟨sb, 3, none⟩ = some (.slice K.A4 K.crs.length K.c4) ∧ w.cell? ⟨sb, 4, none⟩ = some (.slice K.A5 K.lns.length K.c5) ∧ w.cell? ⟨sb, 5, none⟩ = some (.slice K.A6 K.rss.length K.c6) ∧ w.cell? ⟨sb, 6, none⟩ = some (.bool K.dirty) :=
  ⟨h.is.cell 0, h.is.cell 1, h.is.cell 2, h.is.cell 3, h.is.cell 4, h.is.cell 5, h.is.cell 6⟩
theorem plan9 (h : By w0 w sb V K C rc) : w.cell? ⟨sb, 11, none⟩ = some (.slice C.A1 C.l.length C.c1) ∧ w.cell? ⟨sb, 12, none⟩ = some (.slice C.A2 C.js.length C.c2) ∧ w.cell? ⟨sb, 13, none⟩ = some (.slice C.A3 C.sg.length C.c3) ∧ w.cell? ⟨sb, 14, none⟩ = some (.slice C.A4 C.cr.length C.c4) ∧ w.cell? ⟨sb, 15, none⟩ = some (.slice C.A5 C.rs.length C.c5) ∧
    w.cell? ⟨sb, 16, none⟩ = some (.int .i64 C.tm.age) ∧ w.cell? ⟨sb, 17, none⟩ = some (.int .i64 C.tm.brake) ∧ w.cell? ⟨sb, 18, none⟩ = some (.int .i64 C.tm.hold) ∧ w.cell? ⟨sb, 19, none⟩ = some (.int .i64 C.tm.budget) :=
  ⟨h.is.cell 11, h.is.cell 12, h.is.cell 13, h.is.cell 14, h.is.cell 15, h.is.cell 16, h.is.cell 17, h.is.cell 18, h.is.cell 19⟩
/-- a store into one of the state's lists -/
theorem put {g i : Nat} {u : Value} {K' : Km} (h : By w0 w sb V K C rc) (hk : K.at g) (ho : K'.Own w0.heap.size (w.setCell ⟨g, i, none⟩ u)) (he : byArr V K' C rc = byArr V K C rc) (hv : V.Ok w0) (hc : C.Ok w0) : By w0 (w.setCell ⟨g, i, none⟩ u) sb V K' C rc := by
  have hg := (h.own.lt g hk).1
  have hne : ¬ sb = g := fun e => h.no (e ▸ hk)
  have f := h.f.setCell (p := ⟨g, i, none⟩) (.inr hg) u
  exact ⟨by rw [he]; exact h.is.far (p := ⟨g, i, none⟩) hne u, ho, f, h.hb, hv.fr f, hc.fr f⟩
theorem owner (h : By w0 w sb V K C rc) (hv : V.Ok w0) (hc : C.Ok w0) {j g : Nat} (hj : j < K.own.length) (hA : K.A1 = some ⟨g, 0, none⟩) (x : Int) : By w0 (w.setCell ⟨g, j, none⟩ (.int .i64 x)) sb V { K with own := K.own.set j x } C rc := by
  obtain ⟨g0, e0, _, _, _, _, h0⟩ := h.own.set1 hj x
  have f0 : g0 = g := by rw [hA] at e0; injection e0 with e; injection e with e; exact e.symm
  subst f0
  exact h.put (.inl (by rw [hA]; rfl)) h0 (by unfold byArr; simp only [List.length_set]) hv hc
theorem lcell (h : By w0 w sb V K C rc) (hv : V.Ok w0) (hc : C.Ok w0) {j g k : Nat} (hj : j < K.lns.length) (hA : K.A5 = some ⟨g, 0, none⟩) (hk : k < 8) (x : Int) (a' : Ln) (ha : cLn a' = (cLn K.lns[j]).set k (.int .i64 x)) :
    By w0 (w.setCell ⟨g, j * 8 + k, none⟩ (.int .i64 x)) sb V { K with lns := K.lns.set j a' } C rc := by
  obtain ⟨g0, e0, _, _, _, _, h0⟩ := h.own.set5 hj hk x a' ha
  have f0 : g0 = g := by rw [hA] at e0; injection e0 with e; injection e with e; exact e.symm
  subst f0
  exact h.put (.inr (.inr (.inr (.inr (.inl (by rw [hA]; rfl)))))) h0 (by unfold byArr; simp only [List.length_set]) hv hc
theorem dirt (h : By w0 w sb V K C rc) (hv : V.Ok w0) (hc : C.Ok w0) (b : Bool) : By w0 (w.setCell ⟨sb, 6, none⟩ (.bool b)) sb V { K with dirty := b } C rc := by
  have o := h.own.fr ((Fr.refl (fun k => k = sb) w).setCell (p := ⟨sb, 6, none⟩) (.inl rfl) (.bool b)) (fun k hk e => h.no (e ▸ hk))
  have f := h.f.setCell (p := ⟨sb, 6, none⟩) (.inr h.hb) (.bool b)
  exact ⟨h.is.set 6 (.bool b), ⟨o.own, o.rts, o.pts, o.crs, o.lns, o.rss, o.d16, o.d34⟩, f, h.hb, hv.fr f, hc.fr f⟩
theorem at1 (h : By w0 w sb V K C rc) {j : Nat} (hj : j < K.own.length) : ∃ g, K.A1 = some ⟨g, 0, none⟩ ∧ w.cell? ⟨g, j, none⟩ = some (.int .i64 K.own[j]) ∧ w.frozen? ⟨g, j, none⟩ = false := by
  obtain ⟨g, hA, _, _, q, z, _⟩ := h.own.set1 hj 0
  exact ⟨g, hA, q, z⟩
theorem at5 (h : By w0 w sb V K C rc) {j : Nat} (hj : j < K.lns.length) : ∃ g, K.A5 = some ⟨g, 0, none⟩ ∧ (w.cell? ⟨g, j * 8, none⟩ = some (.int .i64 K.lns[j].ask) ∧ w.cell? ⟨g, j * 8 + 1, none⟩ = some (.int .i64 K.lns[j].dn) ∧ w.cell? ⟨g, j * 8 + 2, none⟩ = some (.int .i64 K.lns[j].gr) ∧ w.cell? ⟨g, j * 8 + 3, none⟩ = some (.int .i64 K.lns[j].told) ∧
    w.cell? ⟨g, j * 8 + 4, none⟩ = some (.int .i64 K.lns[j].pa) ∧ w.cell? ⟨g, j * 8 + 5, none⟩ = some (.int .i64 K.lns[j].pd) ∧ w.cell? ⟨g, j * 8 + 6, none⟩ = some (.int .i64 K.lns[j].pg) ∧ w.cell? ⟨g, j * 8 + 7, none⟩ = some (.int .i64 K.lns[j].since)) ∧
    w.frozen? ⟨g, j * 8 + 2, none⟩ = false ∧ w.frozen? ⟨g, j * 8 + 3, none⟩ = false ∧ w.frozen? ⟨g, j * 8 + 7, none⟩ = false := by
  obtain ⟨g, hA, _, _⟩ := own_some h.own.lns (by omega)
  have ho := h.own.lns
  obtain ⟨g', o, e, c0, c1, c2, c3, c4, c5, c6, c7⟩ := rd_ln (wide_rd ho) hj
  rw [hA] at ho e
  injection e with e
  injection e with e1 e2
  subst e1 e2
  simp only [Nat.zero_add] at c0 c1 c2 c3 c4 c5 c6 c7
  exact ⟨g, hA, ⟨c0, c1, c2, c3, c4, c5, c6, c7⟩, ho.frozenAt _, ho.frozenAt _, ho.frozenAt _⟩
theorem at5g (h : By w0 w sb V K C rc) {j g : Nat} (hj : j < K.lns.length) (hA : K.A5 = some ⟨g, 0, none⟩) : (w.cell? ⟨g, j * 8, none⟩ = some (.int .i64 K.lns[j].ask) ∧ w.cell? ⟨g, j * 8 + 1, none⟩ = some (.int .i64 K.lns[j].dn) ∧ w.cell? ⟨g, j * 8 + 2, none⟩ = some (.int .i64 K.lns[j].gr) ∧ w.cell? ⟨g, j * 8 + 3, none⟩ = some (.int .i64 K.lns[j].told) ∧
    w.cell? ⟨g, j * 8 + 4, none⟩ = some (.int .i64 K.lns[j].pa) ∧ w.cell? ⟨g, j * 8 + 5, none⟩ = some (.int .i64 K.lns[j].pd) ∧ w.cell? ⟨g, j * 8 + 6, none⟩ = some (.int .i64 K.lns[j].pg) ∧ w.cell? ⟨g, j * 8 + 7, none⟩ = some (.int .i64 K.lns[j].since)) ∧
    w.frozen? ⟨g, j * 8 + 2, none⟩ = false ∧ w.frozen? ⟨g, j * 8 + 3, none⟩ = false ∧ w.frozen? ⟨g, j * 8 + 7, none⟩ = false := by
  obtain ⟨g0, e0, h0⟩ := h.at5 hj
  have f0 : g0 = g := by rw [hA] at e0; injection e0 with e; injection e with e; exact e.symm
  subst f0
  exact h0
end By
end Go.Proofs.Ytnnacdkijeoeoaa.Bk
/- Small functions of the lines: numbers in their bounds, a line's section, a look that tells clear. -/
namespace Go.Proofs.Ytnnacdkijeoeoaa.Bk
open Go.RowKit Lk Nk

set_option maxRecDepth 100000 in
set_option maxHeartbeats 2000000 in
theorem within_any {A : Option Addr} {c : Nat} {l : List Int} (w : World) (hA : Rd w A (l.map (Value.int .i64))) (hl : l.length ≤ 9223372036854775807) :
    Calls Try.prog 18 #[.slice A l.length c] w fun e w' => e = .returned (.bool (l.all tmB)) ∧ Fr (fun _ => False) w w' := by
  generalize hT : l.all tmB = T
  have HT := Lib.hid hT
  have HA := Lib.hid hA
  clear hT hA
  go_enter Try.func18, Try.ntmps18
  go_wp2_with fail
  go_loopg [4, 7] l.length (fun gi _ v7 wr => ∃ (k : Nat), k ≤ l.length ∧ gi = l.length - k ∧ v7 = .int .i64 (k : Nat) ∧ (l.drop k).all tmB = T ∧ Fr (fun _ => False) w wr)
  case atStart => exact ⟨0, Nat.zero_le _, rfl, rfl, HT.out, Fr.refl _ _⟩
  case round =>
    clear HT
    obtain ⟨k, hk, rfl, rfl, hT, f⟩ := hrel
    by_cases hlt : k < l.length
    · obtain ⟨g, p, hA1, q0⟩ := rd_int (HA.out.fr f fun _ _ => id) hlt
      rw [List.drop_eq_getElem_cons hlt, List.all_cons] at hT
      generalize hR : (l.drop (k + 1)).all tmB = R at hT
      have HR := Lib.hid hR
      clear hR
      generalize l[k] = x at *
      have i1 : (0 : Int) ≤ (k : Int) := by omega
      have i2 : (k : Int) < (l.length : Int) := by omega
      have HK := Lib.hid hlt
      have HFW := Lib.hid f
      rw [hA1]
      have HA1 := Lib.hid hA1
      clear hA1 hlt hk f
      by_cases hn : x < 0
      · have e1 : decide (x < 0) = true := decide_eq_true hn
        rw [show tmB x = false from inB_no.2 (.inl hn), Bool.false_and] at hT
        subst hT
        clear hn
        go_wp2_with fail
        go_ret
        exact ⟨rfl, HFW.out⟩
      · have e1 : decide (x < 0) = false := decide_eq_false hn
        by_cases hm : 4294967295 < x
        · have e2 : decide (x > 4294967295) = true := decide_eq_true hm
          rw [show tmB x = false from inB_no.2 (.inr hm), Bool.false_and] at hT
          subst hT
          clear hn hm
          go_wp2_with fail
          go_ret
          exact ⟨rfl, HFW.out⟩
        · have e2 : decide (x > 4294967295) = false := decide_eq_false hm
          rw [show tmB x = true from inB_iff.2 ⟨by omega, by omega⟩, Bool.true_and] at hT
          have HT := Lib.hid hT
          clear hT hn hm
          go_wp2_with fail
          rw [← HA1.out]
          go_roundg (l.length - (k + 1))
          case measure => have := HK.out; omega
          case rel => exact ⟨k + 1, HK.out, rfl, by go_num, HR.out.trans HT.out, HFW.out⟩
    · rw [List.drop_eq_nil_of_le (by omega)] at hT
      have hT : true = T := hT
      subst hT
      go_wp2_with fail
      go_ret
      exact ⟨rfl, f⟩
theorem isline_any {w : World} {b : Nat} {x : Int} (h : Is w b 3 #[.int .i64 x]) (s : Sec) :
    Calls Try.prog 44 #[.agg #[.int .i64 s.kind, .int .i64 s.oc, .int .i64 s.line], .pointer (some ⟨b, 0, none⟩)] w fun e w' => e = .returned (.bool (secP x s)) ∧ Fr (fun _ => False) w w' := by
  have HF := Lib.hid ((Fr.refl (fun _ => False) w).alloc (.cells #[.int .i64 s.kind, .int .i64 s.oc, .int .i64 s.line] 73))
  have k1 : (w.alloc (.cells #[.int .i64 s.kind, .int .i64 s.oc, .int .i64 s.line] 73)).cell? ⟨b, 0, none⟩ = some (.int .i64 x) := (h.fr HF.out id).cell 0
  unfold secP
  go_enter Try.func44, Try.ntmps44
  go_wp2
  go_ret
  exact ⟨rfl, HF.out⟩
set_option maxHeartbeats 1000000 in
theorem index_line {A : Option Addr} {c b : Nat} {x : Int} {a : List Sec} (w : World) (ha : Rd w A (cellsS a)) (hal : a.length ≤ 9223372036854775807) (hb : Is w b 3 #[.int .i64 x]) :
    Calls Try.prog 43 #[.slice A a.length c, .func (.func 44) #[] #[.pointer (some ⟨b, 0, none⟩)]] w fun e w' => e = .returned (.int .i64 (Mv.firstP (secP x) a 0)) ∧ Fr (fun _ => False) w w' := by
  have K := fun s W (hb : Is W b 3 #[.int .i64 x]) => isline_any hb s
  generalize hT : Mv.firstP (secP x) a 0 = T
  have HT := Lib.hid hT
  clear hT
  go_enter Try.func43, Try.ntmps43
  go_wp2_with fail
  go_loopw [8] (fun i wr => ∃ k : Nat, k ≤ a.length ∧ i = .int .i64 (k : Nat) ∧ Mv.firstP (secP x) (a.drop k) k = T ∧ Fr (fun _ => False) w wr) (fun i _ => a.length - (intOf i).toNat)
  case atStart => exact ⟨0, Nat.zero_le _, rfl, HT.out, Fr.refl _ _⟩
  case round =>
    clear HT
    obtain ⟨k, hk, rfl, hT, fr⟩ := hrel
    by_cases hlt : k < a.length
    · obtain ⟨g, o, rfl, q0, q1, q2⟩ := rd_sec (ha.fr fr fun _ _ => id) hlt
      have KX := K a[k]
      rw [List.drop_eq_getElem_cons hlt, Mv.firstP] at hT
      generalize a[k] = y at *
      obtain ⟨y0, y1, y2⟩ := y
      simp only at q0 q1 q2
      cases hx : secP x ⟨y0, y1, y2⟩
      · rw [hx] at hT KX
        rw [if_neg (by decide)] at hT
        have HT := Lib.hid hT
        clear hT hx K
        go_wp2_with fail
        refine (KX _ (hb.fr fr id)).mono ?_
        rintro e w1 ⟨rfl, f1⟩
        go_wp2_with fail
        go_roundw
        case rel => exact ⟨k + 1, by omega, by go_num, HT.out, fr_nil fr f1⟩
        case measure => simp [intOf]; omega
      · rw [hx] at hT KX
        rw [if_pos rfl] at hT
        have HT := Lib.hid hT
        clear hT hx K
        go_wp2_with fail
        refine (KX _ (hb.fr fr id)).mono ?_
        rintro e w1 ⟨rfl, f1⟩
        go_wp2_with fail
        go_ret
        exact ⟨by rw [← HT.out]; rfl, fr_nil fr f1⟩
    · have hk' : k = a.length := by omega
      rw [List.drop_eq_nil_of_le (by omega)] at hT
      have HT := Lib.hid hT
      clear hT K hk'
      go_wp2_with fail
      go_ret
      exact ⟨by rw [← HT.out]; rfl, fr⟩
set_option maxRecDepth 100000 in
set_option maxHeartbeats 1000000 in
theorem section_any {C : Cm} {w : World} (hC : C.Ok w) (n : Int) :
    Calls Try.prog 29 #[C.val, .int .i64 n] w fun e w' => e = .returned (.int .i64 (secAt C.l n)) ∧ Fr (fun _ => False) w w' := by
  have f0 := ((Fr.refl (fun _ => False) w).alloc (.cells C.arr 30)).alloc (.cells #[.int .i64 n] 3)
  have i0 := (Is.new w 30 C.arr).alloc (.cells #[.int .i64 n] 3)
  have i1 := Is.new (w.alloc (.cells C.arr 30)) 3 #[.int .i64 n]
  have K := index_line (c := C.c1) _ (hC.secs.fr f0 fun _ _ => id) (by have := hC.b1; omega) i1
  have c0 : (((w.alloc (.cells C.arr 30)).alloc (.cells #[.int .i64 n] 3))).cell? ⟨w.heap.size, 0, none⟩ = some (.slice C.A1 C.l.length C.c1) := i0.cell 0
  simp only [World.size_alloc] at K i1
  have HF := Lib.hid f0
  clear f0 i0 i1 hC
  unfold secAt
  unfold Cm.val Cm.arr at *
  go_enter Try.func29, Try.ntmps29
  go_upto_region 1 with fail
  generalize (w.alloc _).alloc _ = w1 at *
  go_wp2_with fail
  refine K.mono ?_
  clear K
  rintro e w2 ⟨rfl, f1⟩
  have HF1 := Lib.hid (fr_nil HF.out f1)
  clear f1 c0
  go_wp2_with fail
  go_ret
  exact ⟨rfl, HF1.out⟩
theorem secAt_any (l : List Sec) (n : Int) : -1 ≤ secAt l n ∧ secAt l n < (l.length : Int) + 0 ∨ secAt l n = -1 := by
  by_cases h : 0 ≤ secAt l n
  · unfold secAt at *
    obtain ⟨j, e, hj, _⟩ := firstP_at (secP n) l 0 h
    rw [e]
    left
    omega
  · right
    unfold secAt at *
    generalize (0 : Nat) = k at *
    induction l generalizing k with
    | nil => rfl
    | cons x r ih =>
      unfold Mv.firstP at h ⊢
      split at h
      · omega
      · rename_i h1
        rw [if_neg h1]
        exact ih _ h
set_option maxRecDepth 100000 in
set_option maxHeartbeats 1000000 in
theorem has_any {C : Cm} {w : World} (hC : C.Ok w) (n : Int) :
    Calls Try.prog 19 #[C.val, .int .i64 n] w fun e w' => e = .returned (.bool (hasB C.l n)) ∧ Fr (fun _ => False) w w' := by
  have HF := Lib.hid ((Fr.refl (fun _ => False) w).alloc (.cells C.arr 30))
  have K := section_any (hC.fr HF.out) n
  have HI := Lib.hid (Is.new w 30 C.arr)
  clear hC
  have hT : hasB C.l n = if 1 ≤ n then decide (0 ≤ secAt C.l n) else false := by
    unfold hasB
    by_cases hn : 1 ≤ n
    · rw [if_pos hn, decide_eq_true hn, Bool.true_and]
    · rw [if_neg hn, decide_eq_false hn, Bool.false_and]
  rw [hT]
  clear hT
  generalize secAt C.l n = s at *
  unfold Cm.val Cm.arr at *
  by_cases hn : 1 ≤ n
  · rw [if_pos hn]
    rw [show decide (0 ≤ s) = decide (s ≥ 0) from rfl]
    generalize hd : decide (s ≥ 0) = d
    have HD := Lib.hid hd
    clear hd
    have e1 : decide (n ≥ 1) = true := decide_eq_true hn
    clear hn
    go_enter Try.func19, Try.ntmps19
    go_upto_region 1 with fail
    generalize w.alloc _ = w1 at *
    obtain ⟨p0, p1, p2, p3, p4, p5, p6, p7, p8⟩ := nine9 HI.out
    go_wp2_with fail
    refine K.mono ?_
    rintro e w2 ⟨rfl, f1⟩
    have HF1 := Lib.hid (fr_nil HF.out f1)
    clear f1 K p0 p1 p2 p3 p4 p5 p6 p7 p8
    go_wp2_with fail
    go_ret
    exact ⟨by rw [← HD.out]; rfl, HF1.out⟩
  · rw [if_neg hn]
    have e1 : decide (n ≥ 1) = false := decide_eq_false hn
    clear hn K
    go_enter Try.func19, Try.ntmps19
    go_upto_region 1 with fail
    generalize w.alloc _ = w1 at *
    go_wp2_with fail
    go_ret
    exact ⟨rfl, HF.out⟩
end Go.Proofs.Ytnnacdkijeoeoaa.Bk
/- A line's step of a cycle: its section is given, taken back, granted. -/
namespace Go.Proofs.Ytnnacdkijeoeoaa.Bk
open Go.RowKit Lk Nk

def giveK (k : Kp) (n s : Nat) (o : Int) : Kp := { k with own := k.own.set s o, lns := k.lns.set n { lnAt k n with since := 0 }, dirty := true }
set_option maxRecDepth 100000 in
set_option maxHeartbeats 2000000 in
theorem give_any {w0 w : World} {sb : Nat} {V : Vm} {K : Km} {k : Kp} {C : Cm} {rc : Bool} (h : By w0 w sb V (bw K k) C rc) (hv : V.Ok w0) (hc : C.Ok w0) {n s : Nat} (hn : n < k.lns.length) (hs : s < k.own.length) (o : Int) :
    Calls Try.prog 46 #[.pointer (some ⟨sb, 0, none⟩), .int .i64 (n : Int), .int .i64 (s : Int), .int .i64 o] w fun e w' => e = .returned (.tuple #[]) ∧ By w0 w' sb V (bw K (giveK k n s o)) C rc := by
  obtain ⟨g, hA, c, z⟩ := h.at1 (j := s) hs
  have c0 : w.cell? ⟨sb, 0, none⟩ = some (.slice K.A1 k.own.length K.c1) := h.is.cell 0
  have hA : K.A1 = some ⟨g, 0, none⟩ := hA
  rw [hA] at c0
  have H1 := Lib.hid (h.owner hv hc (j := s) hs hA o)
  have i1 : (0 : Int) ≤ (s : Int) := by omega
  have i2 : (s : Int) < (k.own.length : Int) := by omega
  have HE : Hid (lnAt k n = k.lns[n]) := Lib.hid (lnAt_get hn)
  unfold giveK
  clear hA
  go_enter Try.func46, Try.ntmps46
  go_upto_region 1 with fail
  have H2 := H1.out
  generalize World.setCell _ _ _ = w1 at *
  clear H1 c c0 z h i1 i2
  obtain ⟨g5, hA5, ⟨q0, q1, q2, q3, q4, q5, q6, q7⟩, z2, z3, z7⟩ := H2.at5 (j := n) hn
  have c4 : w1.cell? ⟨sb, 4, none⟩ = some (.slice K.A5 k.lns.length K.c5) := H2.is.cell 4
  have hA5 : K.A5 = some ⟨g5, 0, none⟩ := hA5
  rw [hA5] at c4
  have H3 := Lib.hid (H2.lcell hv hc (j := n) (k := 7) hn hA5 (by decide) 0 { k.lns[n] with since := 0 } rfl)
  have i1 : (0 : Int) ≤ (n : Int) := by omega
  have i2 : (n : Int) < (k.lns.length : Int) := by omega
  clear hA5 q0 q1 q2 q3 q4 q5 q6 H2
  go_upto_region 2 with fail
  have H4 := H3.out
  generalize World.setCell _ _ _ = w2 at *
  clear H3 q7 z2 z3 z7 c4 i1 i2
  have c6 : w2.cell? ⟨sb, 6, none⟩ = some (.bool k.dirty) := H4.is.cell 6
  have z6 := H4.is.frozen 6
  have H5 := Lib.hid (H4.dirt hv hc true)
  clear H4
  go_wp2_with fail
  go_end0
  exact ⟨rfl, by rw [HE.out]; exact H5.out⟩
def setLn (k : Kp) (n : Nat) (l : Ln) : Kp := { k with lns := k.lns.set n l }
/-- what taking back leaves -/
def backK (v : Vp) (now : Int) (n s : Nat) (k : Kp) : Kp :=
  if (lnAt k n).pd < (lnAt k n).gr then setLn k n { lnAt k n with since := 0 }
  else if (lnAt k n).since = 0 then setLn k n { lnAt k n with since := now + 1 }
  else if ((loAt v.occ s).ok && decide ((loAt v.occ s).val = 0)) = true ∧ (lnAt k n).since ≤ (loAt v.occ s).stamp then giveK k n s 0 else k
set_option maxRecDepth 100000 in
set_option maxHeartbeats 4000000 in
theorem back_any {w0 w : World} {sb : Nat} {V : Vm} {K : Km} {k : Kp} {C : Cm} {rc : Bool} (h : By w0 w sb V (bw K k) C rc) (hv : V.Ok w0) (hc : C.Ok w0) {n s : Nat} (hn : n < k.lns.length) (hs : s < k.own.length) (ho : k.own.length = V.occ.length) {now : Int} (htm : tmB now = true) :
    Calls Try.prog 30 #[.pointer (some ⟨sb, 0, none⟩), .int .i64 now, .int .i64 (n : Int), .int .i64 (s : Int)] w fun e w' => e = .returned (.tuple #[]) ∧ By w0 w' sb V (bw K (backK V.vp now n s k)) C rc := by
  generalize hT : backK V.vp now n s k = T
  have HT := Lib.hid hT
  have HH := Lib.hid h
  have HN := Lib.hid hn
  have HO := Lib.hid hs
  have KG := fun W (f : Fr (fun _ => False) w W) o => give_any (h.fr f) hv hc hn hs o
  have HKG := Lib.hid KG
  obtain ⟨g5, hA5, -, -, -, -⟩ := h.at5 (j := n) hn
  have hA5 : K.A5 = some ⟨g5, 0, none⟩ := hA5
  obtain ⟨g1, o1, hA1, d0, d1, d2⟩ := rd_lo h.vok.occ (j := s) (by omega)
  have c4 : w.cell? ⟨sb, 4, none⟩ = some (.slice K.A5 k.lns.length K.c5) := h.is.cell 4
  have c7 : w.cell? ⟨sb, 7, none⟩ = some (.slice V.A1 V.occ.length V.c1) := h.is.cell 7
  rw [hA5] at c4
  rw [hA1] at c7
  have i1 : (0 : Int) ≤ (s : Int) := by omega
  have i2 : (s : Int) < (V.occ.length : Int) := by omega
  have i3 : (0 : Int) ≤ (n : Int) := by omega
  have i4 : (n : Int) < (k.lns.length : Int) := by omega
  have HLO : Hid (loAt V.vp.occ s = V.occ[s]) := Lib.hid (loAt_nat (l := V.occ) (by omega))
  generalize V.occ[s] = y at *
  obtain ⟨v, t, b⟩ := y
  dsimp only at d0 d1 d2
  have HTM := Lib.hid htm
  have HA := Lib.hid hA5
  clear hT KG h hn hs hA5 hA1 htm
  have HS : Hid (∀ W, Fr (fun _ => False) w W → W.cell? ⟨sb, 4, none⟩ = some (.slice (some ⟨g5, 0, none⟩) k.lns.length K.c5) ∧ W.cell? ⟨sb, 7, none⟩ = some (.slice (some ⟨g1, o1, none⟩) V.occ.length V.c1) ∧ W.cell? ⟨g1, o1 + s * 3, none⟩ = some (.int .i64 v) ∧ W.cell? ⟨g1, o1 + s * 3 + 1, none⟩ = some (.int .i64 t) ∧ W.cell? ⟨g1, o1 + s * 3 + 2, none⟩ = some (.bool b)) := Lib.hid fun W f => ⟨(f.cell (World.block_lt_of_cell? _ _ c4) id).trans c4, (f.cell (World.block_lt_of_cell? _ _ c7) id).trans c7, (f.cell (World.block_lt_of_cell? _ _ d0) id).trans d0, (f.cell (World.block_lt_of_cell? _ _ d1) id).trans d1, (f.cell (World.block_lt_of_cell? _ _ d2) id).trans d2⟩
  go_enter Try.func30, Try.ntmps30
  go_upto_region 0 with fail
  clear c4 c7 d0 d1 d2
  go_region_held3 (fun W => W.cell? ⟨sb, 4, none⟩ = some (.slice (some ⟨g5, 0, none⟩) k.lns.length K.c5) ∧ W.cell? ⟨sb, 7, none⟩ = some (.slice (some ⟨g1, o1, none⟩) V.occ.length V.c1) ∧ W.cell? ⟨g1, o1 + s * 3, none⟩ = some (.int .i64 v) ∧ W.cell? ⟨g1, o1 + s * 3 + 1, none⟩ = some (.int .i64 t) ∧ W.cell? ⟨g1, o1 + s * 3 + 2, none⟩ = some (.bool b)) (first | exact HS.out _ (Fr.refl _ _).drew | exact HS.out _ ((Fr.refl _ _).alloc _).drew | exact HS.out _ ((Fr.refl _ _).drew.alloc _)) (first | (fail))
  rename_i hHeld
  have HG := Lib.hid (((Fr.refl (fun _ => False) w).alloc (.cells #[.int .i64 v, .int .i64 t, .bool b] 51)).drew)
  have HI := Lib.hid ((Is.new w 51 #[.int .i64 v, .int .i64 t, .bool b]).fr (Fr.refl (fun _ => False) _).drew id)
  clear hHeld i1 i2 i3 i4 HS
  generalize (w.alloc _).drew = w1 at *
  generalize w.heap.size = zb at *
  have h1 := HH.out.fr HG.out
  obtain ⟨⟨-, -, q2, -, -, q5, -, -⟩, -, -, -⟩ := h1.at5g (j := n) HN.out HA.out
  change w1.cell? _ = some (.int .i64 (k.lns[n]'HN.out).gr) at q2
  change w1.cell? _ = some (.int .i64 (k.lns[n]'HN.out).pd) at q5
  clear h1
  generalize hd : decide ((k.lns[n]'HN.out).pd < (k.lns[n]'HN.out).gr) = d
  go_upto_region 1 with fail
  go_quiet (fail)
  clear q2 q5
  have HD := Lib.hid hd
  clear hd
  have HG := Lib.hid (HG.out.drewN nq)
  have HI := Lib.hid (HI.out.fr ((Fr.refl (fun _ => False) w1).drewN nq) id)
  generalize w1.drewN nq = w2 at *
  have H1 := Lib.hid (HH.out.fr HG.out)
  obtain ⟨⟨-, -, -, -, -, -, -, q7⟩, -, -, z7⟩ := H1.out.at5g (j := n) HN.out HA.out
  have H2 := Lib.hid (H1.out.lcell hv hc (j := n) (k := 7) HN.out HA.out (by decide) 0 { k.lns[n]'HN.out with since := 0 } rfl)
  have H3 := Lib.hid (H1.out.lcell hv hc (j := n) (k := 7) HN.out HA.out (by decide) (now + 1) { k.lns[n]'HN.out with since := now + 1 } rfl)
  have hT := HT.out
  unfold backK setLn at hT
  rw [lnAt_get HN.out, HLO.out] at hT
  dsimp only at hT
  have KG := fun W (f : Fr (fun _ => False) w2 W) => HKG.out W (fr_nil HG.out f) 0
  have HKG := Lib.hid KG
  change w2.cell? _ = some (.int .i64 (k.lns[n]'HN.out).since) at q7
  generalize k.lns[n]'HN.out = l at *
  have htm := inB_iff.1 HTM.out
  have hwr : wrap64 (now + 1) = now + 1 := IntWalk.wrap64_in _ ⟨by omega, by omega⟩
  clear htm HTM HO KG HT HH HLO
  cases d
  rotate_left
  · rw [if_pos (of_decide_eq_true HD.out)] at hT
    subst hT
    go_wp2_with fail
    go_end0
    exact ⟨rfl, H2.out⟩
  · rw [if_neg (of_decide_eq_false HD.out)] at hT
    by_cases h2 : l.since = 0
    · rw [if_pos h2] at hT
      subst hT
      rw [h2] at q7
      clear h2
      go_wp2_with fail
      go_end0
      exact ⟨rfl, H3.out⟩
    · rw [if_neg h2] at hT
      have e2 : (l.since == 0) = false := by simpa using h2
      have e3 : decide (l.since = 0) = false := by simpa using h2
      have HT := Lib.hid hT
      have b0 : w2.cell? ⟨zb, 0, none⟩ = some (.int .i64 v) := HI.out.cell 0
      have b1 : w2.cell? ⟨zb, 1, none⟩ = some (.int .i64 t) := HI.out.cell 1
      have b2 : w2.cell? ⟨zb, 2, none⟩ = some (.bool b) := HI.out.cell 2
      have KC := fun u : Fro w2 => cleared_any ⟨v, t, b⟩ u.w
      dsimp only at KC
      have hT2 := HT.out
      clear h2 hT hwr z7 HT
      generalize (b && decide (v = 0)) = c1 at *
      generalize hc2 : decide (t ≥ l.since) = c2
      have HC2 := Lib.hid hc2
      go_upto_region 5 with fail
      have b0 := cell_fro b0
      have b1 := cell_fro b1
      have b2 := cell_fro b2
      have q7 := cell_fro q7
      cases c1
      · rw [if_neg (by simp)] at hT2
        subst hT2
        refine region_fro (by kernel_rfl) (by kernel_rfl) ?_
        repeat (go_big_quiet_step (first | (go_at_call 45; with_reducible exact call_fro (KC _))))
        refine wpQuiet_nil ?_
        rintro w3 ⟨⟨w9, f3⟩, hww⟩
        replace hww : w3 = w9 := hww
        subst hww
        clear b0 b1 b2 q7 KC hc2
        go_wp2_with fail
        go_end0
        exact ⟨rfl, H1.out.fr f3⟩
      · cases c2
        · rw [if_neg (by have := of_decide_eq_false HC2.out; simp; omega)] at hT2
          subst hT2
          refine region_fro (by kernel_rfl) (by kernel_rfl) ?_
          repeat (go_big_quiet_step (first | (go_at_call 45; with_reducible exact call_fro (KC _))))
          refine wpQuiet_nil ?_
          rintro w3 ⟨⟨w9, f3⟩, hww⟩
          replace hww : w3 = w9 := hww
          subst hww
          clear b0 b1 b2 q7 KC hc2
          go_wp2_with fail
          go_end0
          exact ⟨rfl, H1.out.fr f3⟩
        · rw [if_pos ⟨rfl, of_decide_eq_true HC2.out⟩] at hT2
          subst hT2
          refine region_fro (by kernel_rfl) (by kernel_rfl) ?_
          repeat (go_big_quiet_step (first | (go_at_call 45; with_reducible exact call_fro (KC _))))
          refine wpQuiet_nil ?_
          rintro w3 ⟨⟨w9, f3⟩, hww⟩
          replace hww : w3 = w9 := hww
          subst hww
          clear b0 b1 b2 q7 KC hc2
          have KG := HKG.out w3 f3
          go_wp2_with fail
          refine KG.mono ?_
          rintro _ w4 ⟨rfl, h4⟩
          clear KG
          go_wp2_with fail
          go_end0
          exact ⟨rfl, h4⟩
/-- what granting leaves -/
def grantK (c : Cf) (n s : Nat) (k : Kp) : Kp :=
  if (lnAt k n).gr < (lnAt k n).pa ∧ (lnAt k n).pd < (lnAt k n).pa ∧ (lnAt k n).ask = (lnAt k n).dn ∧ aheadB c.sigs c.rts k.rts s = false then giveK (setLn k n { lnAt k n with gr := (lnAt k n).pa }) n s (-2) else k
set_option maxRecDepth 100000 in
set_option maxHeartbeats 8000000 in
theorem grant_any {w0 w : World} {sb : Nat} {V : Vm} {K : Km} {k : Kp} {C : Cm} {rc : Bool} (h : By w0 w sb V (bw K k) C rc) (hv : V.Ok w0) (hc : C.Ok w0) {n s : Nat} (hn : n < k.lns.length) (hs : s < k.own.length) (hr : k.rts.length = C.rs.length) :
    Calls Try.prog 31 #[.pointer (some ⟨sb, 0, none⟩), .int .i64 (n : Int), .int .i64 (s : Int)] w fun e w' => e = .returned (.tuple #[]) ∧ By w0 w' sb V (bw K (grantK C.cf n s k)) C rc := by
  generalize hT : grantK C.cf n s k = T
  have hT2 := hT
  unfold grantK at hT2
  have HG := Lib.hid (Fr.refl (fun _ => False) w)
  have HH := Lib.hid h
  have HN := Lib.hid hn
  have HO := Lib.hid hs
  have KA := fun W (f : Fr (fun _ => False) w W) => approached_any C (bw K k) (h.fr f).cok (wide_rd (h.fr f).own.rts) hr (s : Int)
  rw [show aheadB C.sg (C.rs.map Ro.rt) (bw K k).rts s = aheadB C.cf.sigs C.cf.rts k.rts s from rfl] at KA
  obtain ⟨g5, hA5b, -, -, -, -⟩ := h.at5 (j := n) hn
  have hA5 : K.A5 = some ⟨g5, 0, none⟩ := hA5b
  clear hA5b
  have HA := Lib.hid hA5
  obtain ⟨⟨-, -, q2, -, q4, q5, -, -⟩, -, -, -⟩ := h.at5g (j := n) hn hA5
  change w.cell? _ = some (.int .i64 (k.lns[n]'HN.out).gr) at q2
  change w.cell? _ = some (.int .i64 (k.lns[n]'HN.out).pa) at q4
  change w.cell? _ = some (.int .i64 (k.lns[n]'HN.out).pd) at q5
  have c4 : w.cell? ⟨sb, 4, none⟩ = some (.slice K.A5 k.lns.length K.c5) := h.is.cell 4
  rw [hA5] at c4
  have i1 : (0 : Int) ≤ (n : Int) := by omega
  have i2 : (n : Int) < (k.lns.length : Int) := by omega
  rw [lnAt_get HN.out] at hT2
  generalize aheadB C.cf.sigs C.cf.rts k.rts s = a4 at *
  generalize ha1 : decide ((k.lns[n]'HN.out).pa > (k.lns[n]'HN.out).gr) = a1
  generalize ha2 : decide ((k.lns[n]'HN.out).pa > (k.lns[n]'HN.out).pd) = a2
  generalize ha3 : ((k.lns[n]'HN.out).ask == (k.lns[n]'HN.out).dn) = a3
  have hT3 : (if (a1 && (a2 && (a3 && !a4))) = true then giveK (setLn k n { k.lns[n]'HN.out with gr := (k.lns[n]'HN.out).pa }) n s (-2) else k) = T := by
    rw [← hT2]
    have e : ((a1 && (a2 && (a3 && !a4))) = true) = ((k.lns[n]'HN.out).gr < (k.lns[n]'HN.out).pa ∧ (k.lns[n]'HN.out).pd < (k.lns[n]'HN.out).pa ∧ (k.lns[n]'HN.out).ask = (k.lns[n]'HN.out).dn ∧ a4 = false) := by
      rw [← ha1, ← ha2, ← ha3]
      simp only [Bool.and_eq_true, decide_eq_true_eq, beq_iff_eq, Bool.not_eq_true', gt_iff_lt]
    simp only [e]
  have ha5 : decide ((k.lns[n]'HN.out).ask = (k.lns[n]'HN.out).dn) = a3 := ha3
  unfold Cm.val Cm.arr Km.val Km.arr at KA
  have HKA := Lib.hid KA
  clear hT hT2 h hn hs hr hA5 KA
  go_enter Try.func31, Try.ntmps31
  go_upto_region 1 with fail
  clear c4 i1 i2
  cases a1
  · rw [if_neg (by simp)] at hT3
    subst hT3
    go_upto_region 1 with fail
    go_quiet (fail)
    have HG := Lib.hid (HG.out.drewN nq)
    generalize w.drewN nq = w1 at *
    clear q2 q4 q5
    have H1 := Lib.hid (HH.out.fr HG.out)
    obtain ⟨⟨q0, q1, -, -, q4, -, -, -⟩, z2, -, -⟩ := H1.out.at5g (j := n) HN.out HA.out
    change w1.cell? _ = some (.int .i64 (k.lns[n]'HN.out).ask) at q0
    change w1.cell? _ = some (.int .i64 (k.lns[n]'HN.out).dn) at q1
    change w1.cell? _ = some (.int .i64 (k.lns[n]'HN.out).pa) at q4
    obtain ⟨p0, p1, p2, p3, p4, p5, p6, p7, p8⟩ := H1.out.plan9
    obtain ⟨c0, c1, c2, c3, c4, c5, c6⟩ := H1.out.core7
    go_upto_region 2 with fail
    have q0 := cell_fro q0
    have q1 := cell_fro q1
    have p0 := cell_fro p0
    have p1 := cell_fro p1
    have p2 := cell_fro p2
    have p3 := cell_fro p3
    have p4 := cell_fro p4
    have p5 := cell_fro p5
    have p6 := cell_fro p6
    have p7 := cell_fro p7
    have p8 := cell_fro p8
    have c0 := cell_fro c0
    have c1 := cell_fro c1
    have c2 := cell_fro c2
    have c3 := cell_fro c3
    have c4 := cell_fro c4
    have c5 := cell_fro c5
    have c6 := cell_fro c6
    have KA := fun u : Fro w1 => HKA.out u.w (fr_nil HG.out u.f)
    refine region_fro (by kernel_rfl) (by kernel_rfl) ?_
    repeat (go_big_quiet_step (first | (go_at_call 47; with_reducible exact call_fro (KA _))))
    refine wpQuiet_nil ?_
    rintro w3 ⟨⟨w9, f3⟩, hww⟩
    replace hww : w3 = w9 := hww
    subst hww
    clear q0 q1 q4 z2 p0 p1 p2 p3 p4 p5 p6 p7 p8 c0 c1 c2 c3 c4 c5 c6 KA
    go_wp2_with fail
    go_end0
    exact ⟨rfl, H1.out.fr f3⟩
  cases a2
  · rw [if_neg (by simp)] at hT3
    subst hT3
    go_upto_region 1 with fail
    go_quiet (fail)
    have HG := Lib.hid (HG.out.drewN nq)
    generalize w.drewN nq = w1 at *
    clear q2 q4 q5
    have H1 := Lib.hid (HH.out.fr HG.out)
    obtain ⟨⟨q0, q1, -, -, q4, -, -, -⟩, z2, -, -⟩ := H1.out.at5g (j := n) HN.out HA.out
    change w1.cell? _ = some (.int .i64 (k.lns[n]'HN.out).ask) at q0
    change w1.cell? _ = some (.int .i64 (k.lns[n]'HN.out).dn) at q1
    change w1.cell? _ = some (.int .i64 (k.lns[n]'HN.out).pa) at q4
    obtain ⟨p0, p1, p2, p3, p4, p5, p6, p7, p8⟩ := H1.out.plan9
    obtain ⟨c0, c1, c2, c3, c4, c5, c6⟩ := H1.out.core7
    go_upto_region 2 with fail
    have q0 := cell_fro q0
    have q1 := cell_fro q1
    have p0 := cell_fro p0
    have p1 := cell_fro p1
    have p2 := cell_fro p2
    have p3 := cell_fro p3
    have p4 := cell_fro p4
    have p5 := cell_fro p5
    have p6 := cell_fro p6
    have p7 := cell_fro p7
    have p8 := cell_fro p8
    have c0 := cell_fro c0
    have c1 := cell_fro c1
    have c2 := cell_fro c2
    have c3 := cell_fro c3
    have c4 := cell_fro c4
    have c5 := cell_fro c5
    have c6 := cell_fro c6
    have KA := fun u : Fro w1 => HKA.out u.w (fr_nil HG.out u.f)
    refine region_fro (by kernel_rfl) (by kernel_rfl) ?_
    repeat (go_big_quiet_step (first | (go_at_call 47; with_reducible exact call_fro (KA _))))
    refine wpQuiet_nil ?_
    rintro w3 ⟨⟨w9, f3⟩, hww⟩
    replace hww : w3 = w9 := hww
    subst hww
    clear q0 q1 q4 z2 p0 p1 p2 p3 p4 p5 p6 p7 p8 c0 c1 c2 c3 c4 c5 c6 KA
    go_wp2_with fail
    go_end0
    exact ⟨rfl, H1.out.fr f3⟩
  cases a3
  · rw [if_neg (by simp)] at hT3
    subst hT3
    go_upto_region 1 with fail
    go_quiet (fail)
    have HG := Lib.hid (HG.out.drewN nq)
    generalize w.drewN nq = w1 at *
    clear q2 q4 q5
    have H1 := Lib.hid (HH.out.fr HG.out)
    obtain ⟨⟨q0, q1, -, -, q4, -, -, -⟩, z2, -, -⟩ := H1.out.at5g (j := n) HN.out HA.out
    change w1.cell? _ = some (.int .i64 (k.lns[n]'HN.out).ask) at q0
    change w1.cell? _ = some (.int .i64 (k.lns[n]'HN.out).dn) at q1
    change w1.cell? _ = some (.int .i64 (k.lns[n]'HN.out).pa) at q4
    obtain ⟨p0, p1, p2, p3, p4, p5, p6, p7, p8⟩ := H1.out.plan9
    obtain ⟨c0, c1, c2, c3, c4, c5, c6⟩ := H1.out.core7
    go_upto_region 2 with fail
    have q0 := cell_fro q0
    have q1 := cell_fro q1
    have p0 := cell_fro p0
    have p1 := cell_fro p1
    have p2 := cell_fro p2
    have p3 := cell_fro p3
    have p4 := cell_fro p4
    have p5 := cell_fro p5
    have p6 := cell_fro p6
    have p7 := cell_fro p7
    have p8 := cell_fro p8
    have c0 := cell_fro c0
    have c1 := cell_fro c1
    have c2 := cell_fro c2
    have c3 := cell_fro c3
    have c4 := cell_fro c4
    have c5 := cell_fro c5
    have c6 := cell_fro c6
    have KA := fun u : Fro w1 => HKA.out u.w (fr_nil HG.out u.f)
    refine region_fro (by kernel_rfl) (by kernel_rfl) ?_
    repeat (go_big_quiet_step (first | (go_at_call 47; with_reducible exact call_fro (KA _))))
    refine wpQuiet_nil ?_
    rintro w3 ⟨⟨w9, f3⟩, hww⟩
    replace hww : w3 = w9 := hww
    subst hww
    clear q0 q1 q4 z2 p0 p1 p2 p3 p4 p5 p6 p7 p8 c0 c1 c2 c3 c4 c5 c6 KA
    go_wp2_with fail
    go_end0
    exact ⟨rfl, H1.out.fr f3⟩
  cases a4
  rotate_left
  · rw [if_neg (by simp)] at hT3
    subst hT3
    go_upto_region 1 with fail
    go_quiet (fail)
    have HG := Lib.hid (HG.out.drewN nq)
    generalize w.drewN nq = w1 at *
    clear q2 q4 q5
    have H1 := Lib.hid (HH.out.fr HG.out)
    obtain ⟨⟨q0, q1, -, -, q4, -, -, -⟩, z2, -, -⟩ := H1.out.at5g (j := n) HN.out HA.out
    change w1.cell? _ = some (.int .i64 (k.lns[n]'HN.out).ask) at q0
    change w1.cell? _ = some (.int .i64 (k.lns[n]'HN.out).dn) at q1
    change w1.cell? _ = some (.int .i64 (k.lns[n]'HN.out).pa) at q4
    obtain ⟨p0, p1, p2, p3, p4, p5, p6, p7, p8⟩ := H1.out.plan9
    obtain ⟨c0, c1, c2, c3, c4, c5, c6⟩ := H1.out.core7
    go_upto_region 2 with fail
    have q0 := cell_fro q0
    have q1 := cell_fro q1
    have p0 := cell_fro p0
    have p1 := cell_fro p1
    have p2 := cell_fro p2
    have p3 := cell_fro p3
    have p4 := cell_fro p4
    have p5 := cell_fro p5
    have p6 := cell_fro p6
    have p7 := cell_fro p7
    have p8 := cell_fro p8
    have c0 := cell_fro c0
    have c1 := cell_fro c1
    have c2 := cell_fro c2
    have c3 := cell_fro c3
    have c4 := cell_fro c4
    have c5 := cell_fro c5
    have c6 := cell_fro c6
    have KA := fun u : Fro w1 => HKA.out u.w (fr_nil HG.out u.f)
    refine region_fro (by kernel_rfl) (by kernel_rfl) ?_
    repeat (go_big_quiet_step (first | (go_at_call 47; with_reducible exact call_fro (KA _))))
    refine wpQuiet_nil ?_
    rintro w3 ⟨⟨w9, f3⟩, hww⟩
    replace hww : w3 = w9 := hww
    subst hww
    clear q0 q1 q4 z2 p0 p1 p2 p3 p4 p5 p6 p7 p8 c0 c1 c2 c3 c4 c5 c6 KA
    go_wp2_with fail
    go_end0
    exact ⟨rfl, H1.out.fr f3⟩
  · rw [if_pos (by rfl)] at hT3
    subst hT3
    go_upto_region 1 with fail
    go_quiet (fail)
    have HG := Lib.hid (HG.out.drewN nq)
    generalize w.drewN nq = w1 at *
    clear q2 q4 q5
    have H1 := Lib.hid (HH.out.fr HG.out)
    obtain ⟨⟨q0, q1, -, -, q4, -, -, -⟩, z2, -, -⟩ := H1.out.at5g (j := n) HN.out HA.out
    change w1.cell? _ = some (.int .i64 (k.lns[n]'HN.out).ask) at q0
    change w1.cell? _ = some (.int .i64 (k.lns[n]'HN.out).dn) at q1
    change w1.cell? _ = some (.int .i64 (k.lns[n]'HN.out).pa) at q4
    obtain ⟨p0, p1, p2, p3, p4, p5, p6, p7, p8⟩ := H1.out.plan9
    obtain ⟨c0, c1, c2, c3, c4, c5, c6⟩ := H1.out.core7
    go_upto_region 2 with fail
    have q0 := cell_fro q0
    have q1 := cell_fro q1
    have p0 := cell_fro p0
    have p1 := cell_fro p1
    have p2 := cell_fro p2
    have p3 := cell_fro p3
    have p4 := cell_fro p4
    have p5 := cell_fro p5
    have p6 := cell_fro p6
    have p7 := cell_fro p7
    have p8 := cell_fro p8
    have c0 := cell_fro c0
    have c1 := cell_fro c1
    have c2 := cell_fro c2
    have c3 := cell_fro c3
    have c4 := cell_fro c4
    have c5 := cell_fro c5
    have c6 := cell_fro c6
    have KA := fun u : Fro w1 => HKA.out u.w (fr_nil HG.out u.f)
    refine region_fro (by kernel_rfl) (by kernel_rfl) ?_
    repeat (go_big_quiet_step (first | (go_at_call 47; with_reducible exact call_fro (KA _))))
    refine wpQuiet_nil ?_
    rintro w3 ⟨⟨w9, f3⟩, hww⟩
    replace hww : w3 = w9 := hww
    subst hww
    clear q0 q1 q4 z2 p0 p1 p2 p3 p4 p5 p6 p7 p8 c0 c1 c2 c3 c4 c5 c6 KA
    have H2 := Lib.hid (H1.out.fr f3)
    obtain ⟨⟨-, -, q2, -, q4, -, -, -⟩, z2, -, -⟩ := H2.out.at5g (j := n) HN.out HA.out
    change w3.cell? _ = some (.int .i64 (k.lns[n]'HN.out).pa) at q4
    have H3 := Lib.hid (H2.out.lcell hv hc (j := n) (k := 2) HN.out HA.out (by decide) (k.lns[n]'HN.out).pa { k.lns[n]'HN.out with gr := (k.lns[n]'HN.out).pa } rfl)
    go_upto_region 4 with fail
    have H4 : By w0 _ sb V (bw K (setLn k n { k.lns[n]'HN.out with gr := (k.lns[n]'HN.out).pa })) C rc := H3.out
    generalize World.setCell _ _ _ = w4 at *
    clear q2 q4 z2 H3
    have KG := give_any H4 hv hc (n := n) (s := s) (by unfold setLn; simpa using HN.out) HO.out (-2)
    go_wp2_with fail
    refine KG.mono ?_
    rintro _ w5 ⟨rfl, h5⟩
    clear KG
    go_wp2_with fail
    go_end0
    exact ⟨rfl, h5⟩
end Go.Proofs.Ytnnacdkijeoeoaa.Bk
/- A line goes on: what its step leaves is what the plain model says. -/
namespace Go.Proofs.Ytnnacdkijeoeoaa.Bk
open Go.RowKit Lk Nk

/-- the step by its parts -/
def midK (c : Cf) (v : Vp) (now : Int) (n s : Nat) (k : Kp) : Kp := if ownAt k.own s = -2 then backK v now n s k else if ownAt k.own s = 0 then grantK c n s k else k
def tellK (rc : Bool) (n : Nat) (g : Int) (k : Kp) : Kp := if rc = true then setLn k n { lnAt k n with told := g } else k
theorem ownAt_nat {l : List Int} {j : Nat} (hj : j < l.length) : ownAt l j = l[j] := by
  unfold ownAt
  rw [Int.toNat_natCast, List.getD_eq_getElem?_getD, List.getElem?_eq_getElem hj]; rfl
theorem set_self {α : Type} (l : List α) (d : α) (n : Nat) : l.set n (l.getD n d) = l := by
  refine List.ext_getElem (by simp) fun i h1 h2 => ?_
  by_cases hi : n = i
  · subst hi
    rw [List.getElem_set_self, List.getD_eq_getElem?_getD, List.getElem?_eq_getElem h2]; rfl
  · rw [List.getElem_set_ne hi]
theorem ln_set {k : Kp} {n : Nat} (hn : n < k.lns.length) (l : Ln) : lnAt (setLn k n l) n = l := by
  unfold lnAt setLn
  rw [Int.toNat_natCast]
  exact getD_set_eq _ _ _ hn
theorem ln_give {k : Kp} {n s : Nat} (hn : n < k.lns.length) (o : Int) : lnAt (giveK k n s o) n = { lnAt k n with since := 0 } := by
  unfold giveK
  show (k.lns.set n _).getD (Int.toNat n) default = _
  rw [Int.toNat_natCast]
  exact getD_set_eq _ _ _ hn
theorem line_parts {c : Cf} {v : Vp} {now : Int} {rc : Bool} {n s : Nat} {k : Kp} (hb : hasB c.secs n = true) (hs : secAt c.secs n = (s : Int)) (hn : n < k.lns.length) :
    lineK c v now rc n k = tellK rc n (lnAt k n).gr (midK c v now n s k) := by
  have e1 : k.own.set s (ownAt k.own s) = k.own := by
    have := set_self k.own 0 s
    unfold ownAt
    rw [Int.toNat_natCast]
    exact this
  have e2 : k.lns.set n (lnAt k n) = k.lns := by
    have := set_self k.lns default n
    unfold lnAt
    rw [Int.toNat_natCast]
    exact this
  have t1 : ∀ l, tellK rc n (lnAt k n).gr (setLn k n l) = setLn k n (if rc = true then { l with told := (lnAt k n).gr } else l) := fun l => by
    unfold tellK
    rw [ln_set hn]
    cases rc
    · rfl
    · unfold setLn
      simp
  have t2 : ∀ o, tellK rc n (lnAt k n).gr (giveK k n s o) = { k with own := k.own.set s o, lns := k.lns.set n (if rc = true then { lnAt k n with since := 0, told := (lnAt k n).gr } else { lnAt k n with since := 0 }), dirty := true } := fun o => by
    unfold tellK
    rw [ln_give hn]
    cases rc
    · rfl
    · unfold setLn giveK
      simp
  have t3 : tellK rc n (lnAt k n).gr k = setLn k n (if rc = true then { lnAt k n with told := (lnAt k n).gr } else lnAt k n) := by
    have := t1 (lnAt k n)
    rwa [show setLn k n (lnAt k n) = k from by unfold setLn; rw [e2]] at this
  have t4 : ∀ l o, tellK rc n (lnAt k n).gr (giveK (setLn k n l) n s o) = { k with own := k.own.set s o, lns := k.lns.set n (if rc = true then { l with since := 0, told := (lnAt k n).gr } else { l with since := 0 }), dirty := true } := fun l o => by
    unfold tellK
    rw [ln_give (by unfold setLn; simpa using hn), ln_set hn]
    cases rc
    · unfold giveK
      rw [ln_set hn]
      unfold setLn
      simp
    · unfold giveK
      rw [ln_set hn]
      unfold setLn
      simp
  unfold lineK
  rw [if_pos hb]
  unfold putK oneAt midK one
  rw [hs, Int.toNat_natCast, Int.toNat_natCast]
  dsimp only
  by_cases h1 : ownAt k.own s = -2
  · rw [if_pos h1, if_pos h1]
    unfold backK
    by_cases h2 : (lnAt k n).pd < (lnAt k n).gr
    · rw [if_pos h2, if_pos h2, t1]
      dsimp only
      rw [e1]
      unfold setLn
      simp
    · rw [if_neg h2, if_neg h2]
      by_cases h3 : (lnAt k n).since = 0
      · rw [if_pos h3, if_pos h3, t1]
        dsimp only
        rw [e1]
        unfold setLn
        simp
      · rw [if_neg h3, if_neg h3]
        by_cases h4 : ((loAt v.occ s).ok && decide ((loAt v.occ s).val = 0)) = true ∧ (lnAt k n).since ≤ (loAt v.occ s).stamp
        · rw [if_pos h4, if_pos h4, t2]
          simp
        · rw [if_neg h4, if_neg h4, t3]
          dsimp only
          rw [e1]
          unfold setLn
          simp
  · rw [if_neg h1, if_neg h1]
    by_cases h2 : ownAt k.own s = 0
    · rw [if_pos h2, if_pos h2]
      unfold grantK
      by_cases h3 : (lnAt k n).gr < (lnAt k n).pa ∧ (lnAt k n).pd < (lnAt k n).pa ∧ (lnAt k n).ask = (lnAt k n).dn ∧ aheadB c.sigs c.rts k.rts s = false
      · rw [if_pos h3, if_pos h3, t4]
        simp
      · rw [if_neg h3, if_neg h3, t3]
        dsimp only
        rw [e1]
        unfold setLn
        simp
    · rw [if_neg h2, if_neg h2, t3]
      dsimp only
      rw [e1]
      unfold setLn
      simp
theorem back_len (v : Vp) (now : Int) (n s : Nat) (k : Kp) : (backK v now n s k).lns.length = k.lns.length := by
  unfold backK giveK setLn
  split
  · simp
  · split
    · simp
    · split <;> simp
theorem grant_len (c : Cf) (n s : Nat) (k : Kp) : (grantK c n s k).lns.length = k.lns.length := by
  unfold grantK giveK setLn
  split <;> simp
set_option maxRecDepth 100000 in
set_option maxHeartbeats 8000000 in
theorem goOn_any {w0 w : World} {sb : Nat} {V : Vm} {K : Km} {k : Kp} {C : Cm} {rc : Bool} (h : By w0 w sb V (bw K k) C rc) (hv : V.Ok w0) (hc : C.Ok w0) {n : Nat} (hn : n < k.lns.length) (hb : hasB C.l n = true) (ho : k.own.length = C.l.length) (hvo : V.occ.length = C.l.length) (hr : k.rts.length = C.rs.length) {now : Int} (htm : tmB now = true) :
    Calls Try.prog 20 #[.pointer (some ⟨sb, 0, none⟩), .int .i64 now, .int .i64 (n : Int)] w fun e w' => e = .returned (.tuple #[]) ∧ By w0 w' sb V (bw K (lineK C.cf V.vp now rc n k)) C rc := by
  obtain ⟨s, es, hs, -⟩ := sec_at hb
  generalize hT : lineK C.cf V.vp now rc n k = T
  have hT := (line_parts (c := C.cf) (v := V.vp) (now := now) (rc := rc) (k := k) hb es hn).symm.trans hT
  have HN := Lib.hid hn
  have HO : Hid (s < k.own.length) := Lib.hid (by omega)
  have HOV : Hid (k.own.length = V.occ.length) := Lib.hid (by omega)
  have HR := Lib.hid hr
  have HTM := Lib.hid htm
  have KS := fun u : Fro w => section_any (h.fr u.f).cok (n : Int)
  rw [es] at KS
  have HH := Lib.hid h
  obtain ⟨g5, hA5b, -, -, -, -⟩ := h.at5 (j := n) hn
  have hA5 : K.A5 = some ⟨g5, 0, none⟩ := hA5b
  clear hA5b
  obtain ⟨⟨-, -, q2, -, -, -, -, -⟩, -, -, -⟩ := h.at5g (j := n) hn hA5
  have c4 : w.cell? ⟨sb, 4, none⟩ = some (.slice K.A5 k.lns.length K.c5) := h.is.cell 4
  rw [hA5] at c4
  obtain ⟨p0, p1, p2, p3, p4, p5, p6, p7, p8⟩ := h.plan9
  change w.cell? _ = some (.int .i64 (k.lns[n]'HN.out).gr) at q2
  have hgr : (k.lns[n]'HN.out).gr = (lnAt k n).gr := by rw [lnAt_get HN.out]
  rw [hgr] at q2
  clear hgr
  generalize (lnAt k n).gr = gr at *
  unfold midK at hT
  have HT0 := Lib.hid hT
  unfold Cm.val Cm.arr at KS
  have i1 : (0 : Int) ≤ (n : Int) := by omega
  have i2 : (n : Int) < (k.lns.length : Int) := by omega
  have q2 := cell_fro q2
  have c4 := cell_fro c4
  have p0 := cell_fro p0
  have p1 := cell_fro p1
  have p2 := cell_fro p2
  have p3 := cell_fro p3
  have p4 := cell_fro p4
  have p5 := cell_fro p5
  have p6 := cell_fro p6
  have p7 := cell_fro p7
  have p8 := cell_fro p8
  clear h hT hA5 hn hb ho hvo hr htm es hs
  go_enter Try.func20, Try.ntmps20
  go_upto_region 0 with fail
  refine region_fro (by kernel_rfl) (by kernel_rfl) ?_
  repeat (go_big_quiet_step (first | (go_at_call 29; with_reducible exact call_fro (KS _))))
  refine wpQuiet_nil ?_
  rintro w1 ⟨⟨w9, f1⟩, hww⟩
  replace hww : w1 = w9 := hww
  subst hww
  clear q2 c4 p0 p1 p2 p3 p4 p5 p6 p7 p8 KS i1 i2
  have H1 := Lib.hid (HH.out.fr f1)
  clear HH f1
  obtain ⟨g1, hA1b, d0, -⟩ := H1.out.at1 (j := s) HO.out
  have hA1 : K.A1 = some ⟨g1, 0, none⟩ := hA1b
  clear hA1b
  have c0 : w1.cell? ⟨sb, 0, none⟩ = some (.slice K.A1 k.own.length K.c1) := H1.out.is.cell 0
  rw [hA1] at c0
  have hw9 : (k.own[s]'HO.out) = ownAt k.own s := (ownAt_nat HO.out).symm
  change w1.cell? _ = some (.int .i64 (k.own[s]'HO.out)) at d0
  rw [hw9] at d0
  clear hw9 hA1
  have KB := back_any H1.out hv hc HN.out HO.out HOV.out HTM.out
  have KG := grant_any H1.out hv hc HN.out HO.out HR.out
  have i1 : (0 : Int) ≤ (s : Int) := by omega
  have i2 : (s : Int) < (k.own.length : Int) := by have := HO.out; omega
  generalize ownAt k.own s = o at *
  by_cases h1 : o = -2
  · have HT := Lib.hid ((congrArg (tellK rc n gr) (if_pos h1)).symm.trans HT0.out)
    subst h1
    clear HT0 KG
    go_wp2_with fail
    refine KB.mono ?_
    rintro _ w2 ⟨rfl, h2⟩
    clear KB d0 c0 i1 i2
    have H2 := Lib.hid h2
    have HL1 := Lib.hid (back_len V.vp now n s k)
    clear h2
    generalize backK V.vp now n s k = k1 at *
    go_upto_region 6 with fail
    have hl1 : n < k1.lns.length := by rw [HL1.out]; exact HN.out
    obtain ⟨g5, hA5b, -, -, -, -⟩ := H2.out.at5 (j := n) hl1
    have hA5 : K.A5 = some ⟨g5, 0, none⟩ := hA5b
    clear hA5b
    have HA := Lib.hid hA5
    obtain ⟨⟨-, -, -, q3, -, -, -, -⟩, -, z3, -⟩ := H2.out.at5g (j := n) hl1 hA5
    have c4 : w2.cell? ⟨sb, 4, none⟩ = some (.slice K.A5 k1.lns.length K.c5) := H2.out.is.cell 4
    rw [hA5] at c4
    have cr : w2.cell? ⟨sb, 20, none⟩ = some (.bool rc) := H2.out.is.cell 20
    have i1 : (0 : Int) ≤ (n : Int) := by omega
    have i2 : (n : Int) < (k1.lns.length : Int) := by omega
    have H3 := Lib.hid (H2.out.lcell hv hc (j := n) (k := 3) hl1 hA5 (by decide) gr { k1.lns[n] with told := gr } rfl)
    have HE : Hid (lnAt k1 n = k1.lns[n]) := Lib.hid (lnAt_get hl1)
    clear hA5
    cases rc
    · have HTt := Lib.hid ((show tellK false n gr k1 = k1 from if_neg (by decide)).symm.trans HT.out)
      clear q3 z3 c4 i1 i2
      go_wp2_with fail
      go_end0
      exact ⟨rfl, by rw [← HTt.out]; exact H2.out⟩
    · have HTt := Lib.hid ((show tellK true n gr k1 = setLn k1 n { lnAt k1 n with told := gr } from if_pos rfl).symm.trans HT.out)
      go_wp2_with fail
      go_end0
      exact ⟨rfl, by rw [← HTt.out, HE.out]; exact H3.out⟩
  · have e1 : (o == -2) = false := by simpa using h1
    have e1d : decide (o = -2) = false := by simpa using h1
    have HT1 := Lib.hid ((congrArg (tellK rc n gr) (if_neg h1)).symm.trans HT0.out)
    clear HT0 KB h1
    by_cases h2 : o = 0
    · have HT := Lib.hid ((congrArg (tellK rc n gr) (if_pos h2)).symm.trans HT1.out)
      subst h2
      clear HT1
      go_wp2_with fail
      refine KG.mono ?_
      rintro _ w2 ⟨rfl, h2⟩
      clear KG d0 c0 i1 i2
      have H2 := Lib.hid h2
      have HL1 := Lib.hid (grant_len C.cf n s k)
      clear h2
      generalize grantK C.cf n s k = k1 at *
      go_upto_region 6 with fail
      have hl1 : n < k1.lns.length := by rw [HL1.out]; exact HN.out
      obtain ⟨g5, hA5b, -, -, -, -⟩ := H2.out.at5 (j := n) hl1
      have hA5 : K.A5 = some ⟨g5, 0, none⟩ := hA5b
      clear hA5b
      have HA := Lib.hid hA5
      obtain ⟨⟨-, -, -, q3, -, -, -, -⟩, -, z3, -⟩ := H2.out.at5g (j := n) hl1 hA5
      have c4 : w2.cell? ⟨sb, 4, none⟩ = some (.slice K.A5 k1.lns.length K.c5) := H2.out.is.cell 4
      rw [hA5] at c4
      have cr : w2.cell? ⟨sb, 20, none⟩ = some (.bool rc) := H2.out.is.cell 20
      have i1 : (0 : Int) ≤ (n : Int) := by omega
      have i2 : (n : Int) < (k1.lns.length : Int) := by omega
      have H3 := Lib.hid (H2.out.lcell hv hc (j := n) (k := 3) hl1 hA5 (by decide) gr { k1.lns[n] with told := gr } rfl)
      have HE : Hid (lnAt k1 n = k1.lns[n]) := Lib.hid (lnAt_get hl1)
      clear hA5
      cases rc
      · have HTt := Lib.hid ((show tellK false n gr k1 = k1 from if_neg (by decide)).symm.trans HT.out)
        clear q3 z3 c4 i1 i2
        go_wp2_with fail
        go_end0
        exact ⟨rfl, by rw [← HTt.out]; exact H2.out⟩
      · have HTt := Lib.hid ((show tellK true n gr k1 = setLn k1 n { lnAt k1 n with told := gr } from if_pos rfl).symm.trans HT.out)
        go_wp2_with fail
        go_end0
        exact ⟨rfl, by rw [← HTt.out, HE.out]; exact H3.out⟩
    · have e2 : (o == 0) = false := by simpa using h2
      have e2d : decide (o = 0) = false := by simpa using h2
      have HT := Lib.hid ((congrArg (tellK rc n gr) (if_neg h2)).symm.trans HT1.out)
      clear HT1 KG h2
      go_upto_region 6 with fail
      have H2 := H1
      clear d0 c0 i1 i2 H1
      have HL1 : Hid (k.lns.length = k.lns.length) := Lib.hid rfl
      generalize hw2 : w1 = w2 at *
      clear hw2
      obtain ⟨k1, hk1⟩ : ∃ k1, k1 = k := ⟨_, rfl⟩
      rw [← hk1] at H2 HT
      have HL1 : Hid (k1.lns.length = k.lns.length) := Lib.hid (by rw [hk1])
      clear hk1
      have hl1 : n < k1.lns.length := by rw [HL1.out]; exact HN.out
      obtain ⟨g5, hA5b, -, -, -, -⟩ := H2.out.at5 (j := n) hl1
      have hA5 : K.A5 = some ⟨g5, 0, none⟩ := hA5b
      clear hA5b
      have HA := Lib.hid hA5
      obtain ⟨⟨-, -, -, q3, -, -, -, -⟩, -, z3, -⟩ := H2.out.at5g (j := n) hl1 hA5
      have c4 : w2.cell? ⟨sb, 4, none⟩ = some (.slice K.A5 k1.lns.length K.c5) := H2.out.is.cell 4
      rw [hA5] at c4
      have cr : w2.cell? ⟨sb, 20, none⟩ = some (.bool rc) := H2.out.is.cell 20
      have i1 : (0 : Int) ≤ (n : Int) := by omega
      have i2 : (n : Int) < (k1.lns.length : Int) := by omega
      have H3 := Lib.hid (H2.out.lcell hv hc (j := n) (k := 3) hl1 hA5 (by decide) gr { k1.lns[n] with told := gr } rfl)
      have HE : Hid (lnAt k1 n = k1.lns[n]) := Lib.hid (lnAt_get hl1)
      clear hA5
      cases rc
      · have HTt := Lib.hid ((show tellK false n gr k1 = k1 from if_neg (by decide)).symm.trans HT.out)
        clear q3 z3 c4 i1 i2
        go_wp2_with fail
        go_end0
        exact ⟨rfl, by rw [← HTt.out]; exact H2.out⟩
      · have HTt := Lib.hid ((show tellK true n gr k1 = setLn k1 n { lnAt k1 n with told := gr } from if_pos rfl).symm.trans HT.out)
        go_wp2_with fail
        go_end0
        exact ⟨rfl, by rw [← HTt.out, HE.out]; exact H3.out⟩
end Go.Proofs.Ytnnacdkijeoeoaa.Bk

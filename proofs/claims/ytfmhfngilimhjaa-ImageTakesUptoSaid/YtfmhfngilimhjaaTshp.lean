/- For TeleShapes: what its first region lays, plain sums, lists that are written over whose blocks satisfy a word of one's own. -/
import Derived.Test.YtfmhfngilimhjaaTg
import Derived.Test.YtfmhfngilimhjaaKe
namespace Go.Proofs.Ytfmhfngilimhjaa.Te
open Go.RowKit

def Sta.at (x : Sta) (q : Nat) : Prop := (0 < x.occ.l.length ∧ blk x.occ.A = some q) ∨ (0 < x.pos.l.length ∧ blk x.pos.A = some q) ∨ (0 < x.shut.l.length ∧ blk x.shut.A = some q) ∨ (0 < x.lamp.l.length ∧ blk x.lamp.A = some q)
theorem L3.Ok.fr2 {w w1 : World} {x : L3} {S : Nat → Prop} (h : x.Ok w) (f : Fr S w w1) (hn : ∀ k, 0 < x.l.length → blk x.A = some k → ¬ S k) : x.Ok w1 := by
  refine ⟨fun h0 => ?_, h.le, fun h0 k hk => Nat.lt_of_lt_of_le (h.lt h0 k hk) f.size⟩
  have h1 : 0 < x.l.length := by simpa using h0
  exact h.rd.fr f (fun k hk => hn k h1 hk) h0
theorem Sta.Ok.fr2 {w w1 : World} {x : Sta} {S : Nat → Prop} (h : x.Ok w) (f : Fr S w w1) (hn : ∀ k, x.at k → ¬ S k) : x.Ok w1 :=
  ⟨h.occ.fr2 f fun k a b => hn k (.inl ⟨a, b⟩), h.pos.fr2 f fun k a b => hn k (.inr (.inl ⟨a, b⟩)), h.shut.fr2 f fun k a b => hn k (.inr (.inr (.inl ⟨a, b⟩))), h.lamp.fr2 f fun k a b => hn k (.inr (.inr (.inr ⟨a, b⟩)))⟩
theorem Sta.Ok.at_lt {w : World} {x : Sta} (h : x.Ok w) {q : Nat} (hq : x.at q) : q < w.heap.size := by
  rcases hq with ⟨a, b⟩ | ⟨a, b⟩ | ⟨a, b⟩ | ⟨a, b⟩
  · exact h.occ.lt a q b
  · exact h.pos.lt a q b
  · exact h.shut.lt a q b
  · exact h.lamp.lt a q b
theorem Sta.New.at {x : Sta} {z q : Nat} (h : x.New z) (hq : x.at q) : z ≤ q := by
  rcases hq with ⟨a, b⟩ | ⟨a, b⟩ | ⟨a, b⟩ | ⟨a, b⟩
  · exact h.1 q b
  · exact h.2.1 q b
  · exact h.2.2.1 q b
  · exact h.2.2.2 q b
theorem Sta.OkW.fr0 {w w1 : World} {x : Sta} (h : x.OkW w) (f : Fr (fun _ => False) w w1) : x.OkW w1 :=
  ⟨h.occ.fr f fun _ _ => id, h.pos.fr f fun _ _ => id, h.shut.fr f fun _ _ => id, h.lamp.fr f fun _ _ => id⟩
theorem Sta.at_val {x y : Sta} (h : x.val = y.val) {q : Nat} (hq : x.at q) : y.at q := by
  unfold Sta.val at h
  simp only [Value.agg.injEq, Array.mk.injEq, List.cons.injEq, Value.slice.injEq, and_true] at h
  obtain ⟨⟨a0, b0, _⟩, ⟨a1, b1, _⟩, ⟨a2, b2, _⟩, a3, b3, _⟩ := h
  unfold Sta.at at hq ⊢
  rw [← a0, ← a1, ← a2, ← a3, ← b0, ← b1, ← b2, ← b3]
  exact hq
/-- a shape of the call's own: with lists that may be written, or that are read -/
def spW (T : St) (z : Nat) : Sp := ⟨fun v w => ∃ x : Sta, v = x.val ∧ x.st = T ∧ x.OkW w ∧ x.New z, fun _ _ _ ⟨x, e, t, o, n⟩ f => ⟨x, e, t, o.fr0 f, n⟩⟩
def spR (T : St) (z : Nat) : Sp := ⟨fun v w => ∃ x : Sta, v = x.val ∧ x.st = T ∧ x.Ok w ∧ x.New z, fun _ _ _ ⟨x, e, t, o, n⟩ f => ⟨x, e, t, o.fr f, n⟩⟩
def footT (t : Nat) (v : Value) (b : Nat) : Prop := if t = 29 ∨ t = 32 ∨ t = 35 then ∃ x : Sta, v = x.val ∧ x.at b else v = .pointer (some ⟨b, 0, none⟩)
theorem footT_sta {t : Nat} (ht : t = 29 ∨ t = 32 ∨ t = 35) {x : Sta} {b : Nat} : footT t x.val b ↔ x.at b := by
  unfold footT
  rw [if_pos ht]
  exact ⟨fun ⟨y, e, h⟩ => Sta.at_val e.symm h, fun h => ⟨x, rfl, h⟩⟩
theorem footT_box {t : Nat} (ht : ¬ (t = 29 ∨ t = 32 ∨ t = 35)) {v : Value} {b : Nat} : footT t v b ↔ v = .pointer (some ⟨b, 0, none⟩) := by
  unfold footT
  rw [if_neg ht]
theorem l_call2 {P : Program} {ops : Array Oper} {a : Act} {w : World} {φ : Value → World → Prop} {d : Option Tmp} {f : FuncId} {x y : Operand} {ats : Array TypeId} {ty : TypeId} {pos : String} {af : Array Edge} {v u : Value} (he : ∀ args w, (callFunc f args).run P w = .ok (.enter f args) w) (hx : a.eval x = v) (hy : a.eval y = u) (k : Calls P f #[v, u] w fun e w'' => ∃ r, e = .returned r ∧ φ r w'') : Oper.gives P ops ⟨d, .call { callee := .value (.func f), args := #[x, y], argTypes := ats }, ty, pos, af, none⟩ a w φ := by
  refine l_enter rfl (f := f) (args := #[v, u]) (w' := w) ?_ k
  rw [execOp_call_go]
  simp only [List.map_toArray, List.map_cons, List.map_nil, hx, hy]
  exact he _ _
theorem enters_shape (args : Array Value) (w : World) : (callFunc 9 args).run Try.prog w = .ok (.enter 9 args) w := by
  have h := Try.func9
  go_simp
theorem enters_rshape (args : Array Value) (w : World) : (callFunc 10 args).run Try.prog w = .ok (.enter 10 args) w := by
  have h := Try.func10
  go_simp
theorem exs {P : Sta → Prop} (h : ∃ x, P x) : ∃ x0 x1 x2 x3 : L3, P ⟨x0, x1, x2, x3⟩ := by
  obtain ⟨⟨a, b, c, d⟩, h⟩ := h
  exact ⟨a, b, c, d, h⟩
theorem isne {w : World} {a b : Nat} {t u : TypeId} {cs ds : Array Value} (h : Is w a t cs) (k : Is w b u ds) (ht : t ≠ u) : a ≠ b := by
  rintro rfl
  unfold Is at h k
  rw [h] at k
  injection k with k
  injection k with _ k
  exact ht k

/-- a list of so many numbers may be written; its block is one of P's -/
def Wp (w : World) (P : Nat → Prop) (A : Option Addr) (n : Nat) : Prop := 0 < n → ∃ q cur, A = some ⟨q, 0, none⟩ ∧ Is w q 3 cur ∧ n ≤ cur.size ∧ P q
theorem Wp.fr {w w1 : World} {P : Nat → Prop} {n : Nat} {A : Option Addr} {S : Nat → Prop} (h : Wp w P A n) (f : Fr S w w1) (hS : ∀ q, P q → ¬ S q) : Wp w1 P A n := fun h0 => by
  obtain ⟨q, cur, e, i, a, b⟩ := h h0
  exact ⟨q, cur, e, i.fr f (hS q b), a, b⟩
theorem Wp.set {w : World} {P : Nat → Prop} {n g k : Nat} {A : Option Addr} (h : Wp w P A n) (v : Value) : Wp (w.setCell ⟨g, k, none⟩ v) P A n := fun h0 => by
  obtain ⟨q, cur, e, i, a, b⟩ := h h0
  by_cases hq : q = g
  · subst hq
    exact ⟨q, _, e, i.set k v, by simpa using a, b⟩
  · exact ⟨q, cur, e, i.far (p := ⟨g, k, none⟩) hq v, a, b⟩
theorem L3.OkW.wp {w : World} {P : Nat → Prop} {x : L3} (h : x.OkW w) (hP : ∀ q, 0 < x.l.length → blk x.A = some q → P q) : Wp w P x.A x.l.length := fun h0 => by
  obtain ⟨g, o, hA, _, _⟩ := h.ok.rd (by simpa using h0)
  have hb : blk x.A = some g := by rw [hA]; rfl
  obtain ⟨e, cur, i, l⟩ := h.wr g hb
  exact ⟨g, cur, e, i, l, hP g h0 hb⟩
/-- a cell of such a list -/
theorem Wp.cell {w : World} {P : Nat → Prop} {n k : Nat} {A : Option Addr} (h : Wp w P A n) (hk : k < n) : ∃ g v, A = some ⟨g, 0, none⟩ ∧ w.cell? ⟨g, k, none⟩ = some v ∧ w.frozen? ⟨g, k, none⟩ = false ∧ P g := by
  obtain ⟨q, cur, e, i, a, b⟩ := h (by omega)
  exact ⟨q, cur[k], e, (i.cell k).trans (Array.getElem?_eq_getElem (by omega)), i.frozen k, b⟩
/-- four of them -/
def Wp4 (w : World) (P : Nat → Prop) (x : Sta) : Prop := Wp w P x.occ.A x.occ.l.length ∧ Wp w P x.pos.A x.pos.l.length ∧ Wp w P x.shut.A x.shut.l.length ∧ Wp w P x.lamp.A x.lamp.l.length
theorem Wp4.fr {w w1 : World} {P S : Nat → Prop} {x : Sta} (h : Wp4 w P x) (f : Fr S w w1) (hS : ∀ q, P q → ¬ S q) : Wp4 w1 P x := ⟨h.1.fr f hS, h.2.1.fr f hS, h.2.2.1.fr f hS, h.2.2.2.fr f hS⟩
theorem Wp4.set {w : World} {P : Nat → Prop} {x : Sta} {g k : Nat} (h : Wp4 w P x) (v : Value) : Wp4 (w.setCell ⟨g, k, none⟩ v) P x := ⟨h.1.set v, h.2.1.set v, h.2.2.1.set v, h.2.2.2.set v⟩
theorem Sta.OkW.wp4 {w : World} {x : Sta} (h : x.OkW w) : Wp4 w x.at x :=
  ⟨h.occ.wp fun _ a b => .inl ⟨a, b⟩, h.pos.wp fun _ a b => .inr (.inl ⟨a, b⟩), h.shut.wp fun _ a b => .inr (.inr (.inl ⟨a, b⟩)), h.lamp.wp fun _ a b => .inr (.inr (.inr ⟨a, b⟩))⟩

theorem in_all {l : List Sec} (h : ∀ s ∈ l, 0 ≤ s.oc ∧ s.oc < 4) : sumN (fun k => (idx (inB (k : Int)) 0 l).length) 4 = l.length := by
  rw [sum_four (fun x : Sec => x.oc) (fun _ => true) (fun k => inB (k : Int)) l (fun k x => by simp [inB])]
  congr 1
  rw [List.filter_eq_self]
  intro s hs
  simp [h s hs]
def ptsB (s : Sec) : Bool := decide (s.kind = 1)
theorem pt_all {l : List Sec} (h : ∀ s ∈ l, 0 ≤ s.oc ∧ s.oc < 4) : sumN (fun k => (idx (ptB (k : Int)) 0 l).length) 4 = (l.filter ptsB).length := by
  rw [sum_four (fun x : Sec => x.oc) ptsB (fun k => ptB (k : Int)) l (fun k x => rfl)]
  congr 1
  apply List.filter_congr
  intro s hs
  simp [h s hs]
def inlB (n : Nat) (x : Int) : Bool := decide (0 ≤ x) && decide (x < (n : Int))
theorem there_in {l : List Sec} (h : ∀ s ∈ l, 0 ≤ s.oc ∧ s.oc < 4) (x : Int) : ((decide (0 ≤ ocAt l x) && decide (ocAt l x < 4)) && thereB l x) = inlB l.length x := by
  unfold ocAt thereB inlB
  by_cases h0 : 0 ≤ x
  · obtain ⟨m, rfl⟩ : ∃ m : Nat, x = (m : Int) := ⟨x.toNat, by omega⟩
    by_cases h1 : m < l.length
    · have e : l[(m : Int).toNat]? = some l[m] := by rw [Int.toNat_natCast]; exact List.getElem?_eq_getElem h1
      rw [e]
      have := h l[m] (List.getElem_mem h1)
      simp [this, h1]
    · have e : l[(m : Int).toNat]? = none := by rw [Int.toNat_natCast]; exact List.getElem?_eq_none (by omega)
      rw [e]
      simp
      omega
  · simp [h0]
theorem cr_all {l : List Sec} (h : ∀ s ∈ l, 0 ≤ s.oc ∧ s.oc < 4) (cr : List Int) : sumN (fun k => (idx (hasB l (k : Int)) 0 cr).length) 4 = (cr.filter (inlB l.length)).length := by
  rw [sum_four (fun x : Int => ocAt l x) (fun x : Int => thereB l x) (fun k => hasB l (k : Int)) cr (fun k x => has_split l k x)]
  congr 1
  apply List.filter_congr
  intro x _
  exact there_in h x
theorem sg_all {l : List Sec} (h : ∀ s ∈ l, 0 ≤ s.oc ∧ s.oc < 4) (sg : List Sg) : sumN (fun k => (idx (sgB l (k : Int)) 0 sg).length) 4 = (sg.filter fun x => inlB l.length x.sec).length := by
  rw [sum_four (fun x : Sg => ocAt l x.sec) (fun x : Sg => thereB l x.sec) (fun k => sgB l (k : Int)) sg (fun k x => has_split l k x.sec)]
  congr 1
  apply List.filter_congr
  intro x _
  exact there_in h x.sec
/-- how many are left -/
theorem drop_count {α : Type} (p : α → Bool) {l : List α} {s : Nat} (h : s < l.length) : ((l.drop s).filter p).length = (if p l[s] = true then 1 else 0) + ((l.drop (s + 1)).filter p).length := by
  rw [List.drop_eq_getElem_cons h, List.filter_cons]
  split
  · rw [List.length_cons]; omega
  · omega
theorem laid_eval {written : List Nat} {val : Nat → Value} {ts : Array Value} {t : Nat} (ds : List Deferred) (hc : written.contains t = true) (ht : t < ts.size) : ({ tmps := laidL written val ts, defers := ds } : Act).eval (.tmp t) = val t := by
  have h := laidL_at val written ts t ht
  rw [if_pos hc] at h
  simp only [Act.eval]
  simp [h]
/-- the region's own places: which operation lays into which slot -/
def apart6 : List (Nat × Nat) := [(2, 29), (5, 32), (8, 35), (9, 5), (10, 6), (11, 7)]
theorem mem6 : ∀ p ∈ apart6, [27, 28, 29, 30, 31, 32, 33, 34, 35, 5, 6, 7].contains p.2 = true ∧ p.2 < 177 := by decide
/-- four cells stored into a box of four -/
def World.put4 (w : World) (b : Nat) (v0 v1 v2 v3 : Value) : World := (((w.setCell ⟨b, 0, none⟩ v0).setCell ⟨b, 1, none⟩ v1).setCell ⟨b, 2, none⟩ v2).setCell ⟨b, 3, none⟩ v3
theorem put4_is {w : World} {b : Nat} {t : TypeId} {c0 c1 c2 c3 : Value} (i : Is w b t #[c0, c1, c2, c3]) (v0 v1 v2 v3 : Value) : Is (World.put4 w b v0 v1 v2 v3) b t #[v0, v1, v2, v3] := (((i.set 0 v0).set 1 v1).set 2 v2).set 3 v3
theorem put4_fr (w : World) (b : Nat) (v0 v1 v2 v3 : Value) : Fr (fun q => q = b) w (World.put4 w b v0 v1 v2 v3) :=
  ((((Fr.refl (fun q => q = b) w).setCell (p := ⟨b, 0, none⟩) (.inl rfl) v0).setCell (p := ⟨b, 1, none⟩) (.inl rfl) v1).setCell (p := ⟨b, 2, none⟩) (.inl rfl) v2).setCell (p := ⟨b, 3, none⟩) (.inl rfl) v3
end Go.Proofs.Ytfmhfngilimhjaa.Te

/- The rule of XEach2 with a table of what each slot holds (a value, or a slice just laid) and a part that hangs on which operations have come up; what turns lies in a fixed set of blocks, or is new. Nothing here speaks of the program. -/
import Derived.Test.YtgnbaknmibncmaaEach2
import Derived.Test.YtgnbaknmibncmaaHeap
import Derived.BigCall
import Derived.Laws.Slices
namespace Go.Proofs.Ytgnbaknmibncmaa
open Go.RowKit

/-- what a slot holds -/
inductive Pz where
  | any
  | val (v : Value)
  | lit (t : TypeId) (n : Nat) (cs : List Value)
def Pz.holds (F : Nat → Prop) : Pz → Value → World → Prop
  | .any, _, _ => True
  | .val u, v, _ => v = u
  | .lit t n cs, v, w => ∃ b, v = .slice (some ⟨b, 0, none⟩) n n ∧ Is w b t cs.toArray ∧ ¬ F b
theorem Pz.stay {F : Nat → Prop} {p : Pz} {v : Value} {w w' : World} (h : p.holds F v w) (f : Fr F w w') : p.holds F v w' := by
  cases p with
  | any => trivial
  | val u => exact h
  | lit t n cs => obtain ⟨b, e, hb, hn⟩ := h; exact ⟨b, e, hb.fr f hn, hn⟩
/-- the table's entry -/
def at2 (tbl : List (Nat × Pz)) (t : Nat) : Pz := (tbl.lookup t).getD .any
theorem lookup2 {α : Type} : ∀ {tbl : List (Nat × α)} {t : Nat} {p : α}, tbl.lookup t = some p → (t, p) ∈ tbl
  | [], _, _, h => by cases h
  | (k, q) :: tbl, t, p, h => by
    rw [List.lookup_cons] at h
    by_cases hk : t = k
    · subst hk
      simp at h
      subst h
      exact List.mem_cons_self
    · have : (t == k) = false := by simpa using hk
      rw [this] at h
      exact List.mem_cons_of_mem _ (lookup2 h)

/-- the frame behind a region: the slots that it writes hold what they hold, the others what they held -/
def laid (written : List Nat) (val : Nat → Value) (ts : Array Value) : Array Value := written.foldl (fun ts t => ts.setIfInBounds t (val t)) ts
theorem laid_size (val : Nat → Value) : ∀ (written : List Nat) (ts : Array Value), (laid written val ts).size = ts.size
  | [], _ => rfl
  | t :: r, ts => by
    have := laid_size val r (ts.setIfInBounds t (val t))
    unfold laid at this ⊢
    rw [List.foldl_cons, this]
    simp
theorem laid_at (val : Nat → Value) : ∀ (written : List Nat) (ts : Array Value) (i : Nat), i < ts.size → (laid written val ts)[i]? = if written.contains i = true then some (val i) else ts[i]?
  | [], _, _, _ => by simp [laid]
  | t :: r, ts, i, h => by
    have ih := laid_at val r (ts.setIfInBounds t (val t)) i (by simpa using h)
    unfold laid at ih ⊢
    rw [List.foldl_cons, ih]
    by_cases hr : r.contains i = true
    · rw [if_pos hr, if_pos (by simp at hr; simp [hr])]
    · rw [if_neg hr, Array.getElem?_setIfInBounds]
      by_cases ht : t = i
      · subst ht
        rw [if_pos rfl, if_pos h, if_pos (by simp)]
      · rw [if_neg ht, if_neg (by simp at hr; simp [hr]; exact fun e => ht e.symm)]

theorem gives_mono {P : Program} {ops : Array Oper} {o : Oper} {a : Act} {w : World} {φ ψ : Value → World → Prop} (k : Oper.gives P ops o a w φ) (m : ∀ v w', φ v w' → ψ v w') : Oper.gives P ops o a w ψ := by
  unfold Oper.gives at k ⊢
  by_cases hw : Region.wanted o (yielded ops a.tmps) = true
  · rw [if_pos hw] at k ⊢
    revert k
    generalize (execOp a.eval o).run P w = r
    intro k
    match r, k with
    | .ok (.value v) w', k => exact m _ _ k
    | .ok .skip w', k => exact m _ _ k
    | .ok (.enter f args) w', k => exact Calls.mono k fun e w'' ⟨v, he, hv⟩ => ⟨v, he, m _ _ hv⟩
  · rw [if_neg hw] at k ⊢
    exact m _ _ k

theorem region_slots3 {P : Program} {ops : Array Oper} {Q : Exit → Act → World → Prop} {id : Nat} {a0 : Act} {w0 : World} (F : Nat → Prop) (written : List Nat) (tbl : List (Nat × Pz)) (I : Array Bool → World → Prop) (hm : P.follows .mixedOrders = true)
    (hchk : tidy .any ops a0.tmps.size = true) (hw1 : ops.toList.all (fun o => match o.dst with | some d => written.contains d | none => true) = true) (hw2 : written.all (fun t => ops.toList.any fun o => o.dst == some t) = true) (hI0 : I (Array.replicate ops.size false) w0.drew)
    (hstep : ∀ (i : Nat) (o : Oper), ops[i]? = some o → ∀ listed a w, listed.size = ops.size → listed.getD i true = false → I listed w → Fr F w0.drew w →
      (∀ t, t ∈ o.looksAt ops → if written.contains t = true then (at2 tbl t).holds F (a.eval (.tmp t)) w else a.eval (.tmp t) = a0.eval (.tmp t)) → Oper.gives P ops o a w fun v w' => Fr F w w' ∧ I (listed.setIfInBounds i true) w' ∧ ∀ d, o.dst = some d → (at2 tbl d).holds F v w')
    (hend : ∀ listed val w, (∀ i, i < ops.size → listed.getD i false = true) → I listed w → Fr F w0.drew w → (∀ t ∈ written, (at2 tbl t).holds F (val t) w) → Q .normal { tmps := laid written val a0.tmps, defers := a0.defers } w) : (Code.region id ops true).wp P Q a0 w0 := by
  have hin : ∀ (i : Nat) (o : Oper), ops[i]? = some o → ∀ d, o.dst = some d → written.contains d = true := by
    intro i o ho d hd
    rw [List.all_eq_true] at hw1
    have hm := Array.mem_of_getElem? ho
    have := hw1 o (by simpa using hm)
    rw [hd] at this
    exact this
  refine wp_region_each2 hm (fun t v w => if written.contains t = true then (at2 tbl t).holds F v w else v = a0.eval (.tmp t)) (Fr F) I hI0 (Fr.refl _) (fun h k => h.trans k (fun _ _ h => h)) (fun t v w w' h f => ?_) hchk (fun t ht => ?_) (fun i o ho listed a w hs hd hi hf hl => ?_) (fun listed a w hd hi hf hT h1 h2 => ?_)
  · by_cases hc : written.contains t = true
    · rw [if_pos hc] at h ⊢
      exact Pz.stay h f
    · rw [if_neg hc] at h ⊢
      exact h
  · by_cases hc : written.contains t = true
    · exfalso
      rw [List.all_eq_true] at hw2
      have h3 := hw2 t (by simpa using hc)
      rw [List.any_eq_true] at h3
      obtain ⟨o, ho, he⟩ := h3
      obtain ⟨j, hj, hjo⟩ := List.mem_iff_getElem.1 ho
      refine ht j ?_
      rw [Array.getElem?_eq_getElem (by simpa using hj)]
      have e : ops[j]'(by simpa using hj) = o := by simpa using hjo
      rw [e]
      simpa using he
    · rw [if_neg hc]
  · have k := hstep i o ho listed a w hs hd hi hf hl
    have mono : ∀ v w', (Fr F w w' ∧ I (listed.setIfInBounds i true) w' ∧ ∀ d, o.dst = some d → (at2 tbl d).holds F v w') → (Fr F w w' ∧ I (listed.setIfInBounds i true) w' ∧ ∀ d, o.dst = some d → if written.contains d = true then (at2 tbl d).holds F v w' else v = a0.eval (.tmp d)) :=
      fun v w' ⟨h1, h2, h3⟩ => ⟨h1, h2, fun d hd => by rw [if_pos (hin i o ho d hd)]; exact h3 d hd⟩
    exact gives_mono k mono
  · have key : a = { tmps := laid written (fun t => a.eval (.tmp t)) a0.tmps, defers := a0.defers } := by
      obtain ⟨ts, ds⟩ := a
      simp only at h1 h2
      subst h1
      simp only [Act.mk.injEq, and_true]
      apply Array.ext_getElem?
      intro i
      rcases Nat.lt_or_ge i ts.size with hi | hi
      · rw [laid_at _ _ _ _ (by omega)]
        by_cases hc : written.contains i = true
        · rw [if_pos hc]
          simp [Act.eval, hi]
        · rw [if_neg hc]
          have := hT i
          rw [if_neg hc] at this
          simp only [Act.eval] at this
          rw [Array.getElem?_eq_getElem hi, Array.getElem?_eq_getElem (by omega)]
          simpa [hi, (show i < a0.tmps.size by omega)] using this
      · rw [Array.getElem?_eq_none hi, Array.getElem?_eq_none (by rw [laid_size]; omega)]
    rw [key]
    exact hend listed (fun t => a.eval (.tmp t)) w hd hi hf fun t ht => by
      have := hT t
      rw [if_pos (by simpa using ht)] at this
      exact this

theorem listed_no {l : Array Bool} {i : Nat} (h : l.getD i true = false) : l.getD i false = false := by
  rcases Nat.lt_or_ge i l.size with hi | hi
  · simp [hi] at h ⊢; exact h
  · simp [Array.getElem?_eq_none hi] at h
theorem listed_yes {l : Array Bool} {i : Nat} (h : i < l.size) : (l.setIfInBounds i true).getD i false = true := by simp [h]

theorem z_of {P : Program} {ops : Array Oper} {o : Oper} {a : Act} {w w' : World} {v : Value} {φ : Value → World → Prop} (hg : o.guard = none) (h : (execOp a.eval o).run P w = .ok (.value v) w') (k : φ v w') : Oper.gives P ops o a w φ := by
  unfold Oper.gives Region.wanted
  rw [hg, if_pos rfl, h]
  exact k
theorem z_enter {P : Program} {ops : Array Oper} {o : Oper} {a : Act} {w w' : World} {f : FuncId} {args : Array Value} {φ : Value → World → Prop} (hg : o.guard = none) (h : (execOp a.eval o).run P w = .ok (.enter f args) w') (k : Calls P f args w' fun e w'' => ∃ v, e = .returned v ∧ φ v w'') : Oper.gives P ops o a w φ := by
  unfold Oper.gives Region.wanted
  rw [hg, if_pos rfl, h]
  exact k
/-- a slot's new value, and the world behind it -/
theorem putz {F : Nat → Prop} {tbl : List (Nat × Pz)} {J : Prop} {d : Nat} {v : Value} {w w' : World} (f : Fr F w w') (j : J) (h : (at2 tbl d).holds F v w') : Fr F w w' ∧ J ∧ ∀ d', some d = some d' → (at2 tbl d').holds F v w' :=
  ⟨f, j, fun d' e => by injection e with e; subst e; exact h⟩
section
variable {P : Program} {ops : Array Oper} {a : Act} {w : World} {φ : Value → World → Prop}
theorem z_move {d : Option Tmp} {x : Operand} {ty : TypeId} {pos : String} {af : Array Edge} (k : φ (a.eval x) w) : Oper.gives P ops ⟨d, .move x, ty, pos, af, none⟩ a w φ := z_of rfl rfl k
theorem z_assign {d : Option Tmp} {x : Operand} {ty : TypeId} {pos : String} {af : Array Edge} (k : φ (a.eval x) w) : Oper.gives P ops ⟨d, .assign x, ty, pos, af, none⟩ a w φ := z_of rfl rfl k
theorem z_make {d : Option Tmp} {x y : Operand} {ty t : TypeId} {pos : String} {af : Array Edge} {v u r : Value} {w' : World} (hx : a.eval x = v) (hy : a.eval y = u) (h : (Instr.makeSlice t v u).run P w = .ok r w') (k : φ r w') : Oper.gives P ops ⟨d, .makeSlice t x y, ty, pos, af, none⟩ a w φ := by
  refine z_of rfl (v := r) (w' := w') ?_ k
  simp only [execOp, hx, hy, Sem.run_bind, h]
  rfl
theorem z_call2 {d : Option Tmp} {f : FuncId} {x y : Operand} {ats : Array TypeId} {ty : TypeId} {pos : String} {af : Array Edge} {v u : Value} (he : ∀ args w, (callFunc f args).run P w = .ok (.enter f args) w) (hx : a.eval x = v) (hy : a.eval y = u) (k : Calls P f #[v, u] w fun e w'' => ∃ r, e = .returned r ∧ φ r w'') : Oper.gives P ops ⟨d, .call { callee := .value (.func f), args := #[x, y], argTypes := ats }, ty, pos, af, none⟩ a w φ := by
  refine z_enter rfl (f := f) (args := #[v, u]) (w' := w) ?_ k
  rw [execOp_call_go]
  simp only [List.map_toArray, List.map_cons, List.map_nil, hx, hy]
  exact he _ _
end
end Go.Proofs.Ytgnbaknmibncmaa

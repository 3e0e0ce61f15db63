/- The rule for a region that draws its order, with a table of what each slot holds: a value, or a slice just laid. Nothing here speaks of the program. -/
import Derived.Test.YtcfmgoocaheaiaaEach
import Derived.Test.YtcfmgoocaheaiaaHeap
import Derived.BigCall
import Derived.Laws.Slices
namespace Go.Proofs.Ytcfmgoocaheaiaa
open Go.RowKit

/-- what a slot holds -/
inductive Pr where
  | any
  | val (v : Value)
  | lit (t : TypeId) (cs : List Value)
def Pr.holds : Pr → Value → World → Prop
  | .any, _, _ => True
  | .val u, v, _ => v = u
  | .lit t cs, v, w => ∃ b, v = .slice (some ⟨b, 0, none⟩) cs.length cs.length ∧ Is w b t cs.toArray
theorem Pr.stay {p : Pr} {v : Value} {w w' : World} (h : p.holds v w) (f : Fr (fun _ => False) w w') : p.holds v w' := by
  cases p with
  | any => trivial
  | val u => exact h
  | lit t cs => obtain ⟨b, e, hb⟩ := h; exact ⟨b, e, hb.fr f id⟩
/-- the table's entry -/
def at_ (tbl : List (Nat × Pr)) (t : Nat) : Pr := (tbl.lookup t).getD .any

theorem lookup_mem {α : Type} : ∀ {tbl : List (Nat × α)} {t : Nat} {p : α}, tbl.lookup t = some p → (t, p) ∈ tbl
  | [], _, _, h => by cases h
  | (k, q) :: tbl, t, p, h => by
    rw [List.lookup_cons] at h
    by_cases hk : t = k
    · subst hk
      simp at h
      subst h
      exact List.mem_cons_self
    · have : (t == k) = false := by simpa using hk
      rw [this] at h
      exact List.mem_cons_of_mem _ (lookup_mem h)

theorem region_slots {P : Program} {ops : Array Oper} {Q : Exit → Act → World → Prop} {id : Nat} {a0 : Act} {w0 : World} (tbl : List (Nat × Pr)) (hm : P.follows .mixedOrders = true)
    (hchk : tidy .any ops a0.tmps.size = true)
    (hpre : ∀ x ∈ tbl, ops.toList.any (fun o => o.dst == some x.1) = false → x.2.holds (a0.eval (.tmp x.1)) w0.drew)
    (hstep : ∀ o ∈ ops.toList, ∀ a w, Fr (fun _ => False) w0.drew w → (∀ t, t ∈ o.looksAt ops → (at_ tbl t).holds (a.eval (.tmp t)) w) → Oper.gives P ops o a w fun v w' => Fr (fun _ => False) w w' ∧ ∀ d, o.dst = some d → (at_ tbl d).holds v w')
    (hend : ∀ a w, Fr (fun _ => False) w0.drew w → (∀ t, (at_ tbl t).holds (a.eval (.tmp t)) w) → a.defers = a0.defers → a.tmps.size = a0.tmps.size → Q .normal a w) : (Code.region id ops true).wp P Q a0 w0 := by
  refine wp_region_each hm (fun t v w => (at_ tbl t).holds v w) (Fr (fun _ => False)) (Fr.refl _) (fun h k => h.trans k (fun _ _ h => h)) (fun _ _ _ _ h f => Pr.stay h f) hchk (fun t ht => ?_) (fun i o ho => hstep o ?_) hend
  · unfold at_
    cases hl : tbl.lookup t with
    | none => trivial
    | some p =>
      refine hpre (t, p) (lookup_mem hl) ?_
      rw [List.any_eq_false]
      intro o ho
      obtain ⟨j, hj, he⟩ := List.mem_iff_getElem.1 ho
      have := ht j
      rw [Array.getElem?_eq_getElem (by simpa using hj)] at this
      have e : ops[j]'(by simpa using hj) = o := by simpa using he
      rw [e] at this
      simpa using this
  · have := Array.mem_of_getElem? ho
    simpa using this

theorem gives_of {P : Program} {ops : Array Oper} {o : Oper} {a : Act} {w w' : World} {v : Value} {φ : Value → World → Prop} (hg : o.guard = none) (h : (execOp a.eval o).run P w = .ok (.value v) w') (k : φ v w') : Oper.gives P ops o a w φ := by
  unfold Oper.gives Region.wanted
  rw [hg, if_pos rfl, h]
  exact k
theorem gives_call {P : Program} {ops : Array Oper} {o : Oper} {a : Act} {w w' : World} {f : FuncId} {args : Array Value} {φ : Value → World → Prop} (hg : o.guard = none) (h : (execOp a.eval o).run P w = .ok (.enter f args) w') (k : Calls P f args w' fun e w'' => ∃ v, e = .returned v ∧ φ v w'') : Oper.gives P ops o a w φ := by
  unfold Oper.gives Region.wanted
  rw [hg, if_pos rfl, h]
  exact k
/-- a slot's new value, and the world behind it -/
theorem putk {tbl : List (Nat × Pr)} {d : Nat} {v : Value} {w w' : World} (f : Fr (fun _ => False) w w') (h : (at_ tbl d).holds v w') : Fr (fun _ => False) w w' ∧ ∀ d', some d = some d' → (at_ tbl d').holds v w' :=
  ⟨f, fun d' e => by injection e with e; subst e; exact h⟩
section
variable {P : Program} {ops : Array Oper} {a : Act} {w : World} {φ : Value → World → Prop}
theorem g_move {d : Option Tmp} {x : Operand} {ty : TypeId} {pos : String} {af : Array Edge} (k : φ (a.eval x) w) : Oper.gives P ops ⟨d, .move x, ty, pos, af, none⟩ a w φ := gives_of rfl rfl k
theorem g_assign {d : Option Tmp} {x : Operand} {ty : TypeId} {pos : String} {af : Array Edge} (k : φ (a.eval x) w) : Oper.gives P ops ⟨d, .assign x, ty, pos, af, none⟩ a w φ := gives_of rfl rfl k
theorem g_head {d : Option Tmp} {x y : Operand} {ty t : TypeId} {pos : String} {af : Array Edge} {v u r : Value} {w' : World} (ht : P.underlying t = some .string) (hx : a.eval x = v) (hy : a.eval y = u) (h : (Instr.slice t v none (some u) none).run P w = .ok r w') (k : φ r w') : Oper.gives P ops ⟨d, .slice t x none (some y) none, ty, pos, af, none⟩ a w φ := by
  refine gives_of rfl (v := r) (w' := w') ?_ k
  simp only [execOp, Option.map, hx, hy, Sem.run_bind, run_sliceAt_string w t _ _ _ _ ht, h]
  rfl
theorem g_lit1 {d : Option Tmp} {x : Operand} {ty t : TypeId} {pos : String} {af : Array Edge} {v r : Value} {w' : World} (hx : a.eval x = v) (h : (Instr.buildSlice t 1 #[(0, v)]).run P w = .ok r w') (k : φ r w') : Oper.gives P ops ⟨d, .buildSlice t 1 #[(0, x)], ty, pos, af, none⟩ a w φ := by
  refine gives_of rfl (v := r) (w' := w') ?_ k
  simp only [execOp, List.map_toArray, List.map_cons, List.map_nil, hx, Sem.run_bind, h]
  rfl
theorem g_conv {d : Option Tmp} {x : Operand} {ty s t : TypeId} {pos : String} {af : Array Edge} {v r : Value} {w' : World} (hx : a.eval x = v) (h : (convert s t v).run P w = .ok r w') (k : φ r w') : Oper.gives P ops ⟨d, .convert s t x, ty, pos, af, none⟩ a w φ := by
  refine gives_of rfl (v := r) (w' := w') ?_ k
  simp only [execOp, hx, Sem.run_bind, h]
  rfl
theorem g_bin {d : Option Tmp} {op : BinOp} {x y : Operand} {ty t t2 : TypeId} {pos : String} {af : Array Edge} {v u r : Value} (hx : a.eval x = v) (hy : a.eval y = u) (h0 : (eqGuard op t x y v u).run P w = .ok () w) (h : (binOp op t v u).run P w = .ok r w) (k : φ r w) : Oper.gives P ops ⟨d, .binOp op t x y t2, ty, pos, af, none⟩ a w φ := by
  refine gives_of rfl (v := r) (w' := w) ?_ k
  simp only [execOp, hx, hy, Sem.run_bind, h0, h, Result.andThen_ok]
  rfl
theorem g_call {d : Option Tmp} {f : FuncId} {x : Operand} {ats : Array TypeId} {ty : TypeId} {pos : String} {af : Array Edge} {v : Value} (he : ∀ args w, (callFunc f args).run P w = .ok (.enter f args) w) (hx : a.eval x = v) (k : Calls P f #[v] w fun e w'' => ∃ u, e = .returned u ∧ φ u w'') : Oper.gives P ops ⟨d, .call { callee := .value (.func f), args := #[x], argTypes := ats }, ty, pos, af, none⟩ a w φ := by
  refine gives_call rfl (f := f) (args := #[v]) (w' := w) ?_ k
  rw [execOp_call_go]
  simp only [List.map_toArray, List.map_cons, List.map_nil, hx]
  exact he _ _
end
end Go.Proofs.Ytcfmgoocaheaiaa

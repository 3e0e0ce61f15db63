/- The table of slots of XLate2, with operations that a guard lets run or not, and calls. Nothing here speaks of the program. -/
import Derived.Test.YtnnacdkijeoeoaaKb
namespace Go.Proofs.Ytnnacdkijeoeoaa.Nk
open Go.RowKit

/-- what a slot holds where a guard lets it be written -/
def spOn (c : Bool) (s : Sp) : Sp := ⟨fun v w => c = true → s.p v w, fun v w w' h f hc => s.st v w w' (h hc) f⟩
section
variable {P : Program} {ops : Array Oper} {a : Act} {w : World} {φ : Value → World → Prop}
theorem wanted_eq {o : Oper} {g : Nat} {d : Tmp} {v : Bool} (hg : o.guard = some (g, true)) (hd : (ops[g]?).bind (·.dst) = some d) (he : a.eval (.tmp d) = .bool v) : Region.wanted o (yielded ops a.tmps) = v := by
  have : yielded ops a.tmps g = some v := by
    unfold yielded
    rw [hd]
    have he : a.tmps.getD d undef = .bool v := he
    rw [Array.getD_eq_getD_getElem?] at he
    cases e : a.tmps[d]? with
    | none => rw [e] at he; cases he
    | some x =>
      rw [e] at he
      have he : x = .bool v := he
      subst he
      simp [e]
  unfold Region.wanted
  rw [hg]
  show (yielded ops a.tmps g == some true) = v
  rw [this]
  cases v <;> rfl
theorem g_of {o : Oper} {w' : World} {u : Value} {g : Nat} {d : Tmp} {v : Bool} (hg : o.guard = some (g, true)) (hd : (ops[g]?).bind (·.dst) = some d) (he : a.eval (.tmp d) = .bool v) (hv : v = true) (h : (execOp a.eval o).run P w = .ok (.value u) w') (k : φ u w') : Oper.gives P ops o a w φ := by
  unfold Oper.gives
  rw [wanted_eq hg hd he, hv, if_pos rfl, h]
  exact k
theorem g_no {o : Oper} {g : Nat} {d : Tmp} {v : Bool} (hg : o.guard = some (g, true)) (hd : (ops[g]?).bind (·.dst) = some d) (he : a.eval (.tmp d) = .bool v) (hv : v = false) (k : φ undef w) : Oper.gives P ops o a w φ := by
  unfold Oper.gives
  rw [wanted_eq hg hd he, hv, if_neg (by decide)]
  exact k
theorem g_call {d : Option Tmp} {f : FuncId} {xs : Array Operand} {ats : Array TypeId} {ty : TypeId} {pos : String} {af : Array Edge} {gd : Option (Nat × Bool)} {vs : Array Value} (hw : Region.wanted ⟨d, .call { callee := .value (.func f), args := xs, argTypes := ats }, ty, pos, af, gd⟩ (yielded ops a.tmps) = true)
    (he : ∀ args w, (callFunc f args).run P w = .ok (.enter f args) w) (hx : #[] ++ xs.map a.eval ++ #[] = vs) (k : Calls P f vs w fun e w'' => ∃ r, e = .returned r ∧ φ r w'') : Oper.gives P ops ⟨d, .call { callee := .value (.func f), args := xs, argTypes := ats }, ty, pos, af, gd⟩ a w φ := by
  unfold Oper.gives
  rw [if_pos hw, execOp_call_go, hx, he]
  exact k
end
theorem region_late {P : Program} {ops : Array Oper} {Q : Exit → Act → World → Prop} {id : Nat} {a0 : Act} {w0 : World} (m : Nat) (written : List Nat) (tbl : List (Nat × Sp)) (hm : P.follows .mixedOrders = true)
    (hchk : tidy .any ops a0.tmps.size = true) (hlate : lateB .any ops m = true) (hmn : m ≤ ops.size) (hw1 : ops.toList.all (fun o => match o.dst with | some d => written.contains d | none => true) = true) (hw2 : written.all (fun t => ops.toList.any fun o => o.dst == some t) = true)
    (hw3 : ((List.range ops.size).all fun i => decide (i < m) || ((ops[i]?).bind (·.dst)).isNone) = true)
    (hstep : ∀ (i : Nat) (o : Oper), ops[i]? = some o → i < m → ∀ a w, Fr (fun _ => False) w0.drew w → (∀ t, t ∈ o.looksAt ops → holdsL written tbl a0 t (a.eval (.tmp t)) w) → Oper.gives P ops o a w fun v w' => Fr (fun _ => False) w w' ∧ ∀ d, o.dst = some d → (sp tbl d).p v w')
    (hend : ∀ val w, Fr (fun _ => False) w0.drew w → (∀ t ∈ written, (sp tbl t).p (val t) w) → Tail P ops Q (ops.size - m) m { tmps := laidL written val a0.tmps, defers := a0.defers } w) : (Code.region id ops true).wp P Q a0 w0 :=
  region_lateJ m written tbl (fun _ _ _ => True) trivial hm hchk hlate hmn hw1 hw2 hw3 (fun i o ho him _ a w _ _ _ _ hf _ _ hl => givesL_mono (hstep i o ho him a w hf hl) fun _ _ ⟨h1, h2⟩ => ⟨h1, trivial, h2⟩) fun val _ w _ hf _ hT => hend val w hf hT

theorem putL' {tbl : List (Nat × Sp)} {d : Nat} {v : Value} {w w' : World} (f : Fr (fun _ => False) w w') (h : (sp tbl d).p v w') : Fr (fun _ => False) w w' ∧ ∀ d', some d = some d' → (sp tbl d').p v w' :=
  ⟨f, fun d' e => by injection e with e; subst e; exact h⟩
end Go.Proofs.Ytnnacdkijeoeoaa.Nk

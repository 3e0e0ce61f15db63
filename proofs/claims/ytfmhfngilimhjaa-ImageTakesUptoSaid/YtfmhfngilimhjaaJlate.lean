/- The rule of XLate2 where the last operations write slots of their own (an append of the call's own, an address, a store). Nothing here speaks of the program. -/
import Derived.Test.YtfmhfngilimhjaaKe
namespace Go.Proofs.Ytfmhfngilimhjaa
open Go.RowKit

theorem region_lateT {P : Program} {ops : Array Oper} {Q : Exit → Act → World → Prop} {id : Nat} {a0 : Act} {w0 : World} (m : Nat) (written tails : List Nat) (tbl : List (Nat × Sp)) (hm : P.follows .mixedOrders = true)
    (hchk : tidy .any ops a0.tmps.size = true) (hlate : lateB .any ops m = true) (hmn : m ≤ ops.size)
    (hw1 : ((List.range ops.size).all fun i => match (ops[i]?).bind (·.dst) with | some d => if i < m then written.contains d else tails.contains d | none => true) = true) (hwt : (tails.all fun t => !written.contains t) = true) (hw2 : written.all (fun t => ops.toList.any fun o => o.dst == some t) = true)
    (hstep : ∀ (i : Nat) (o : Oper), ops[i]? = some o → i < m → ∀ a w, Fr (fun _ => False) w0.drew w → (∀ t, t ∈ o.looksAt ops → holdsL written tbl a0 t (a.eval (.tmp t)) w) → Oper.gives P ops o a w fun v w' => Fr (fun _ => False) w w' ∧ ∀ d, o.dst = some d → (sp tbl d).p v w')
    (hend : ∀ val w, Fr (fun _ => False) w0.drew w → (∀ t ∈ written, (sp tbl t).p (val t) w) → Tail P ops Q (ops.size - m) m { tmps := laidL written val a0.tmps, defers := a0.defers } w) : (Code.region id ops true).wp P Q a0 w0 := by
  rw [List.all_eq_true] at hw1
  have hat : ∀ (i : Nat) (o : Oper), ops[i]? = some o → ∀ d, o.dst = some d → if i < m then written.contains d = true else tails.contains d = true := by
    intro i o ho d hd
    have hlt : i < ops.size := (Array.getElem?_eq_some_iff.1 ho).1
    have k := hw1 i (List.mem_range.2 hlt)
    rw [ho] at k
    simp only [Option.bind_some, hd] at k
    split at k <;> rename_i hi
    · rw [if_pos hi]; exact k
    · rw [if_neg hi]; exact k
  rw [List.all_eq_true] at hwt
  refine wp_region_late hm m (fun t v w => holdsL written tbl a0 t v w) (Fr (fun _ => False)) (fun a _ _ => ∀ t ∈ tails, a.eval (.tmp t) = a0.eval (.tmp t)) (fun _ _ => rfl) (Fr.refl _) (fun h k => h.trans k (fun _ _ h => h)) (fun t v w w' h f => ?_) hchk hlate hmn (fun t ht => ?_) (fun i o ho him listed a w hls hnl hts hrd hf hJ hI hl => ?_) (fun a listed w hall hf hJ hT h1 h2 => ?_)
  · unfold holdsL at h ⊢
    by_cases hc : written.contains t = true
    · rw [if_pos hc] at h ⊢
      exact (sp tbl t).st _ _ _ h f
    · rw [if_neg hc] at h ⊢
      exact h
  · unfold holdsL
    by_cases hc : written.contains t = true
    · exfalso
      rw [List.all_eq_true] at hw2
      have h3 := hw2 t (by simpa using hc)
      rw [List.any_eq_true] at h3
      obtain ⟨o, ho, he⟩ := h3
      obtain ⟨j, hj, hjo⟩ := List.mem_iff_getElem.1 ho
      refine ht j ?_
      rw [Array.getElem?_eq_getElem (by simpa using hj)]
      have e : ops[j]'(by simpa using hj) = o := by simpa using hjo
      rw [e]
      simpa using he
    · rw [if_neg hc]
  · refine givesL_mono (hstep i o ho him a w hf hl) fun v w' ⟨h1, h2⟩ => ⟨h1, fun t ht => ?_, fun d hd => ?_⟩
    · rw [eval_put_other (fun e => ?_)]
      · exact hJ t ht
      · have k := hat i o ho t e
        rw [if_pos him] at k
        have := hwt t ht
        rw [k] at this
        cases this
    · unfold holdsL
      have k := hat i o ho d hd
      rw [if_pos him] at k
      rw [if_pos k]
      exact h2 d hd
  · have hnl : ∀ t, t ∉ tails → ∀ (j : Nat), m ≤ j → (ops[j]?).bind (·.dst) ≠ some t := by
      intro t ht j hj hc
      cases ho : ops[j]? with
      | none => rw [ho] at hc; cases hc
      | some o' =>
        rw [ho] at hc
        have k := hat j o' ho t hc
        rw [if_neg (by omega)] at k
        exact ht (by simpa using k)
    have hT' : ∀ t, holdsL written tbl a0 t (a.eval (.tmp t)) w := fun t => by
      by_cases htl : t ∈ tails
      · unfold holdsL
        have := hwt t htl
        rw [if_neg (by simpa using this)]
        exact hJ t htl
      · exact hT t (hnl t htl)
    have key : a = { tmps := laidL written (fun t => a.eval (.tmp t)) a0.tmps, defers := a0.defers } := by
      obtain ⟨ts, ds⟩ := a
      simp only at h1 h2
      subst h1
      simp only [Act.mk.injEq, and_true]
      apply Array.ext_getElem?
      intro i
      rcases Nat.lt_or_ge i ts.size with hi | hi
      · rw [laidL_at _ _ _ _ (by omega)]
        by_cases hc : written.contains i = true
        · rw [if_pos hc]
          simp [Act.eval, hi]
        · rw [if_neg hc]
          have := hT' i
          unfold holdsL at this
          rw [if_neg hc] at this
          simp only [Act.eval] at this
          rw [Array.getElem?_eq_getElem hi, Array.getElem?_eq_getElem (by omega)]
          simpa [hi, (show i < a0.tmps.size by omega)] using this
      · rw [Array.getElem?_eq_none hi, Array.getElem?_eq_none (by rw [laidL_size]; omega)]
    rw [key]
    exact hend (fun t => a.eval (.tmp t)) w hf fun t ht => by
      have := hT' t
      unfold holdsL at this
      rw [if_pos (by simpa using ht)] at this
      exact this
/-- one of the last operations, that gives a value -/
theorem tailv {P : Program} {ops : Array Oper} {ts : Array Value} {ds : List Deferred} {w : World} {Q : Exit → Act → World → Prop} {n i d : Nat} {o : Oper} {w' : World} {v : Value} (ho : ops[i]? = some o) (hg : o.guard = none) (hd : o.dst = some d) (h : (execOp ({ tmps := ts, defers := ds } : Act).eval o).run P w = .ok (.value v) w') (k : Tail P ops Q n (i + 1) { tmps := ts.setIfInBounds d v, defers := ds } w') : Tail P ops Q (n + 1) i { tmps := ts, defers := ds } w :=
  ⟨o, ho, l_of hg h (by rw [hd]; exact k)⟩
/-- an append of what is read to a row of the call's own, as an operation -/
theorem exec_append {P : Program} (w : World) {o : Oper} {a : Act} (s x : Operand) (t : TypeId)
    (ho : o.op = .call { callee := .builtin .append, args := #[s, x], argTypes := #[t, t] })
    (base : Nat) (e : TypeId) (i : TypeInfo) (z : Value) (size bytes : Nat) (ht : P.underlying t = some (.slice e)) (hi : P.info? e = some i) (hz : i.zero = some z)
    (hsize : i.size = size) (hby : i.bytes = bytes) (hzs : z.cells.size = size) (hs0 : 0 < size) (v : Value) (n : Nat) (xs : List Value) (hs : a.eval s = v) (hown : w.ownsRow base e size v n xs)
    (A : Option Addr) (c m : Nat) (news : List Value) (hm : news.length = m * size) (hx : a.eval x = .slice A m c) (hr : Rd w A news) (h1 : ∀ u ∈ news, u.oneCell' = true) (h63 : n + m ≤ maxLen) (hbytes : (n + m) * bytes ≤ 140737488355328) (hbase : base ≤ w.heap.size) :
    ∃ v' w', (execOp a.eval o).run P w = .ok (.value v') w' ∧ w'.ownsRow base e size v' (n + m) (xs ++ news) ∧ w.grownBy w' v.ownBlock ∧ (v'.ownBlock = v.ownBlock ∨ v'.ownBlock = some w.heap.size) := by
  obtain ⟨v', w', hrun, h2, h3, h4⟩ := run_append_wide (P := P) w base t o.type e i z size bytes ht hi hz hsize hby hzs hs0 v n xs hown A c m news hm hr h1 h63 hbytes hbase
  refine ⟨v', w', ?_, h2, h3, h4⟩
  unfold execOp
  simp only [ho, resolve, invoke, builtin, Sem.run_bind, Sem.run_pure, Result.andThen_ok, List.map_toArray, List.map_cons, List.map_nil, hs, hx, hrun]
theorem tail_append {P : Program} {ops : Array Oper} {Q : Exit → Act → World → Prop} {n0 i0 d : Nat} {w : World} {o : Oper} {ts : Array Value} {ds : List Deferred} (hop : ops[i0]? = some o) (hgd : o.guard = none) (hd : o.dst = some d) (s x : Operand) (t : TypeId)
    (ho : o.op = .call { callee := .builtin .append, args := #[s, x], argTypes := #[t, t] })
    (base : Nat) (e : TypeId) (i : TypeInfo) (z : Value) (size bytes : Nat) (ht : P.underlying t = some (.slice e)) (hi : P.info? e = some i) (hz : i.zero = some z)
    (hsize : i.size = size) (hby : i.bytes = bytes) (hzs : z.cells.size = size) (hs0 : 0 < size) (v : Value) (n : Nat) (xs : List Value) (hs : ({ tmps := ts, defers := ds } : Act).eval s = v) (hown : w.ownsRow base e size v n xs)
    (A : Option Addr) (c m : Nat) (news : List Value) (hm : news.length = m * size) (hx : ({ tmps := ts, defers := ds } : Act).eval x = .slice A m c) (hr : Rd w A news) (h1 : ∀ u ∈ news, u.oneCell' = true) (h63 : n + m ≤ maxLen) (hbytes : (n + m) * bytes ≤ 140737488355328) (hbase : base ≤ w.heap.size)
    (k : ∀ v' w', w'.ownsRow base e size v' (n + m) (xs ++ news) → w.grownBy w' v.ownBlock → (v'.ownBlock = v.ownBlock ∨ v'.ownBlock = some w.heap.size) → Tail P ops Q n0 (i0 + 1) { tmps := ts.setIfInBounds d v', defers := ds } w') : Tail P ops Q (n0 + 1) i0 { tmps := ts, defers := ds } w := by
  obtain ⟨v', w', hrun, h2, h3, h4⟩ := exec_append (P := P) w (o := o) (a := { tmps := ts, defers := ds }) s x t ho base e i z size bytes ht hi hz hsize hby hzs hs0 v n xs hs hown A c m news hm hx hr h1 h63 hbytes hbase
  exact tailv hop hgd hd hrun (k v' w' h2 h3 h4)
/-- a call of a Go function as one step of a region that draws -/
theorem step_calln {P : Program} {ops : Array Oper} {o : Oper} {a : Act} {w : World} {K : Act → World → Prop} {Q : Exit → Act → World → Prop} {E : Prop} (hg : o.guard = none) (f : FuncId) (xs : Array Operand) (ats : Array TypeId)
    (ho : o.op = .call { callee := .value (.func f), args := xs, argTypes := ats }) (he : ∀ args w, (callFunc f args).run P w = .ok (.enter f args) w) (vs : Array Value) (hx : xs.map a.eval = vs)
    (h : Calls P f vs w fun e w' => ∃ v, e = .returned v ∧ K (a.put o.dst v) w') : if Region.wanted o (yielded ops a.tmps) = true then Oper.wp P o a w K Q else E := by
  have hw : Region.wanted o (yielded ops a.tmps) = true := by simp [Region.wanted, hg]
  rw [if_pos hw]
  obtain ⟨d, op, ty, pos, af, gd⟩ := o
  simp only at ho
  subst ho
  have hrun : (execOp a.eval ⟨d, .call { callee := .value (.func f), args := xs, argTypes := ats }, ty, pos, af, gd⟩).run P w = .ok (.enter f vs) w := by
    rw [execOp_call_go, hx]
    simp only [Array.empty_append, Array.append_empty]
    exact he _ _
  unfold Oper.wp
  rw [hrun]
  exact h.mono fun e w' ⟨v, hv, hk⟩ => by subst hv; exact hk
end Go.Proofs.Ytfmhfngilimhjaa

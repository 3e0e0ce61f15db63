/- A rule for a region that draws its order: each operation is looked at once. To each slot belongs a property of its value and of the world, which no later step takes away; an operation whose operands have their properties yields one with its own. Nothing here speaks of the program. -/
import Derived.WalkKit
namespace Go.Proofs.Ytgnbaknmibncmaa

/-- how many of the first n operations have not come up yet -/
def left (listed : Array Bool) : Nat → Nat
  | 0 => 0
  | n + 1 => left listed n + if listed.getD n true = false then 1 else 0
theorem left_set {listed : Array Bool} {i : Nat} (h : listed.getD i true = false) : ∀ n, left (listed.setIfInBounds i true) n + (if i < n then 1 else 0) = left listed n
  | 0 => by simp [left]
  | n + 1 => by
    have ih := left_set h n
    unfold left
    by_cases hn : i = n
    · subst hn
      have hlt : i < listed.size := by
        rcases Nat.lt_or_ge i listed.size with h' | h'
        · exact h'
        · simp [Array.getElem?_eq_none h'] at h
      rw [if_pos h, if_pos (Nat.lt_succ_self i)]
      rw [if_neg (Nat.lt_irrefl i)] at ih
      have : ¬ ((listed.setIfInBounds i true).getD i true = false) := by simp [hlt]
      rw [if_neg this]
      omega
    · rw [getD_set_ne true hn]
      have e : (if i < n + 1 then 1 else 0) = (if i < n then 1 else 0) := by
        by_cases h1 : i < n
        · simp only [h1, if_true, show i < n + 1 from by omega]
        · simp only [h1, if_false, show ¬ i < n + 1 from by omega]
      rw [e]
      omega
theorem left_le (listed : Array Bool) : ∀ n, left listed n ≤ n
  | 0 => Nat.le_refl _
  | n + 1 => by
    have := left_le listed n
    unfold left
    split <;> omega

/-- every operand is what an operation yields that must come before, or is written by nobody here; everybody waits for earlier ones alone -/
def tidy (md : Region.Mode) (ops : Array Oper) (n : Nat) : Bool :=
  (List.range ops.size).all fun i => match ops[i]? with
    | none => true
    | some o => (match o.dst with | some d => decide (d < n) | none => true) && o.after.all (fun e => decide (e.on < i)) &&
        (o.looksAt ops).all fun t => (List.range ops.size).all fun j => (ops[j]?).bind (·.dst) != some t || o.after.any fun e => e.on == j && Region.binds md e

/-- what an operation does: it yields a value with the property, and leaves such a world -/
def Oper.gives (P : Program) (ops : Array Oper) (o : Oper) (a : Act) (w : World) (φ : Value → World → Prop) : Prop :=
  if Region.wanted o (yielded ops a.tmps) = true then
    match (execOp a.eval o).run P w with
    | .ok (.value v) w' => φ v w'
    | .ok .skip w' => φ undef w'
    | .ok (.enter f args) w' => Calls P f args w' fun e w'' => ∃ v, e = .returned v ∧ φ v w''
    | _ => False
  else φ undef w
theorem Oper.gives_wpOp {P : Program} {ops : Array Oper} {Q : Exit → Act → World → Prop} {i : Nat} {o : Oper} {a : Act} {w : World} {φ : Value → World → Prop} {K : Act → World → Prop}
    (hi : ops[i]? = some o) (h : Oper.gives P ops o a w φ) (hK : ∀ v w', φ v w' → K (a.put o.dst v) w') : wpOp P ops Q i K a w := by
  unfold wpOp
  rw [hi]
  unfold Oper.gives at h
  by_cases hw : Region.wanted o (yielded ops a.tmps) = true
  · rw [if_pos hw] at h
    simp only [hw, if_true]
    refine .inl ?_
    unfold Oper.wp
    generalize (execOp a.eval o).run P w = r at *
    match r, h with
    | .ok (.value v) w', h => exact hK _ _ h
    | .ok .skip w', h => exact hK _ _ h
    | .ok (.enter f args) w', h => exact Calls.mono h fun e w'' ⟨v, he, hv⟩ => by subst he; exact hK _ _ hv
  · rw [if_neg hw] at h
    simp only [hw, if_false, Bool.false_eq_true]
    exact hK _ _ h

section
variable {P : Program} {ops : Array Oper} {Q : Exit → Act → World → Prop} {md : Region.Mode}
theorem eval_put_same {a : Act} {d : Tmp} {v : Value} (h : d < a.tmps.size) : (a.put (some d) v).eval (.tmp d) = v := by
  simp [Act.put, Act.eval, h]
theorem eval_put_other {a : Act} {x : Option Tmp} {t : Tmp} {v : Value} (h : x ≠ some t) : (a.put x v).eval (.tmp t) = a.eval (.tmp t) :=
  Act.eval_put fun d hd e => h (by rw [hd]; injection e with e; rw [e])
theorem put_size (a : Act) (x : Option Tmp) (v : Value) : (a.put x v).tmps.size = a.tmps.size := by cases x <;> simp [Act.put]
theorem put_defers (a : Act) (x : Option Tmp) (v : Value) : (a.put x v).defers = a.defers := by cases x <;> rfl

theorem any_each {a0 : Act} (T : Tmp → Value → World → Prop) (R : World → World → Prop) {W : World}
    (hRt : ∀ {w1 w2 w3}, R w1 w2 → R w2 w3 → R w1 w3) (hT : ∀ t v w w', T t v w → R w w' → T t v w')
    (hchk : tidy md ops a0.tmps.size = true)
    (hstep : ∀ (i : Nat) (o : Oper), ops[i]? = some o → ∀ a w, R W w → (∀ t, t ∈ o.looksAt ops → T t (a.eval (.tmp t)) w) → Oper.gives P ops o a w fun v w' => R w w' ∧ ∀ d, o.dst = some d → T d v w')
    (hend : ∀ a w, R W w → (∀ t, T t (a.eval (.tmp t)) w) → a.defers = a0.defers → a.tmps.size = a0.tmps.size → Q .normal a w) :
    ∀ (fuel : Nat) (listed : Array Bool) (a : Act) (w : World), listed.size = ops.size → left listed ops.size ≤ fuel → R W w → a.defers = a0.defers → a.tmps.size = a0.tmps.size →
      (∀ t, (∀ j : Nat, (ops[j]?).bind (·.dst) = some t → listed.getD j false = true) → T t (a.eval (.tmp t)) w) → wpAny P md ops Q fuel listed a w := by
  have hch : ∀ (i : Nat) (o : Oper), ops[i]? = some o → (∀ d, o.dst = some d → d < a0.tmps.size) ∧ (∀ e ∈ o.after, e.on < i) ∧ ∀ t ∈ o.looksAt ops, ∀ j : Nat, (ops[j]?).bind (·.dst) = some t → ∃ e ∈ o.after, e.on = j ∧ Region.binds md e = true := by
    intro i o hi
    have hlt : i < ops.size := (Array.getElem?_eq_some_iff.1 hi).1
    unfold tidy at hchk
    rw [List.all_eq_true] at hchk
    have h := hchk i (List.mem_range.2 hlt)
    rw [hi] at h
    simp only [Bool.and_eq_true] at h
    refine ⟨fun d hd => ?_, fun e he => ?_, fun t ht j hj => ?_⟩
    · have := h.1.1; rw [hd] at this; simpa using this
    · have := h.1.2; rw [Array.all_eq_true_iff_forall_mem] at this; simpa using this e he
    · have h2 := h.2
      rw [List.all_eq_true] at h2
      have h3 := h2 t ht
      rw [List.all_eq_true] at h3
      have hjlt : j < ops.size := by
        cases ho : ops[j]? with
        | none => rw [ho] at hj; cases hj
        | some o' => exact (Array.getElem?_eq_some_iff.1 ho).1
      have h4 := h3 j (List.mem_range.2 hjlt)
      rw [hj] at h4
      simp only [bne_self_eq_false, Bool.false_or, Array.any_eq_true] at h4
      obtain ⟨k, hk, h5⟩ := h4
      simp only [Bool.and_eq_true, beq_iff_eq] at h5
      exact ⟨o.after[k], Array.getElem_mem hk, h5.1, h5.2⟩
  have hin : ∀ (t : Tmp) (j : Nat), (ops[j]?).bind (·.dst) = some t → j < ops.size := by
    intro t j hj
    cases ho : ops[j]? with
    | none => rw [ho] at hj; cases hj
    | some o' => exact (Array.getElem?_eq_some_iff.1 ho).1
  have hdone : ∀ (listed : Array Bool) (a : Act) (w : World), listed.size = ops.size → R W w → a.defers = a0.defers → a.tmps.size = a0.tmps.size →
      (∀ t, (∀ j : Nat, (ops[j]?).bind (·.dst) = some t → listed.getD j false = true) → T t (a.eval (.tmp t)) w) → Region.ready md ops listed = [] → Q .normal a w := by
    intro listed a w hl hW hd hs hI hr
    have hall : ∀ n i, i < n → i < ops.size → listed.getD i false = true := by
      intro n
      induction n with
      | zero => intro i hi; omega
      | succ n ih =>
        intro i hi hlt
        rcases Nat.lt_or_ge i n with h1 | h1
        · exact ih i h1 hlt
        · have hin : i = n := by omega
          subst hin
          have h' : i < listed.size := by omega
          cases hl : listed.getD i true with
          | true => simp [h'] at hl ⊢; exact hl
          | false =>
            exfalso
            have hm : i ∈ Region.ready md ops listed := by
              rw [mem_ready]
              refine ⟨hl, ops[i], Array.getElem?_eq_getElem hlt, fun e he _ => ?_⟩
              have he' := (hch i ops[i] (Array.getElem?_eq_getElem hlt)).2.1 e he
              exact ih e.on he' (by omega)
            rw [hr] at hm
            cases hm
    exact hend a w hW (fun t => hI t fun j hj => hall (j + 1) j (by omega) (hin t j hj)) hd hs
  intro fuel
  induction fuel with
  | zero =>
    intro listed a w hl hf hW hd hs hI
    have h0 : left listed ops.size = 0 := by omega
    have hr : Region.ready md ops listed = [] := by
      apply List.eq_nil_iff_forall_not_mem.2
      intro i hi
      obtain ⟨h1, o, ho, _⟩ := mem_ready.1 hi
      have hlt : i < ops.size := (Array.getElem?_eq_some_iff.1 ho).1
      have k := left_set h1 ops.size
      rw [if_pos hlt] at k
      omega
    exact ⟨hr, hdone listed a w hl hW hd hs hI hr⟩
  | succ fuel ih =>
    intro listed a w hl hf hW hd hs hI
    refine ⟨hdone listed a w hl hW hd hs hI, fun i hi => ?_⟩
    obtain ⟨h1, o, ho, hall⟩ := mem_ready.1 hi
    have hlt : i < ops.size := (Array.getElem?_eq_some_iff.1 ho).1
    obtain ⟨c1, c2, c3⟩ := hch i o ho
    refine Oper.gives_wpOp ho (hstep i o ho a w hW fun t ht => hI t fun j hj => ?_) ?_
    · obtain ⟨e, he, h2, h3⟩ := c3 t ht j hj
      rw [← h2]
      exact hall e he h3
    · intro v w' ⟨hR, hv⟩
      have k := left_set h1 ops.size
      rw [if_pos hlt] at k
      refine ih _ _ _ (by simpa using hl) (by omega) (hRt hW hR) (by rw [put_defers]; exact hd) (by rw [put_size]; exact hs) fun t ht => ?_
      by_cases hdt : o.dst = some t
      · have e : (a.put o.dst v).eval (.tmp t) = v := by
          rw [hdt]
          exact eval_put_same (by rw [hs]; exact c1 t hdt)
        rw [e]
        exact hv t hdt
      · rw [eval_put_other hdt]
        refine hT t _ w w' (hI t fun j hj => ?_) hR
        have hji : i ≠ j := by
          rintro rfl
          rw [ho] at hj
          exact hdt hj
        have := ht j hj
        rw [getD_set_ne false hji] at this
        exact this

/-- **the rule** -/
theorem wp_region_each {id : Nat} {a0 : Act} {w0 : World} (hm : P.follows .mixedOrders = true) (T : Tmp → Value → World → Prop) (R : World → World → Prop)
    (hR0 : ∀ w, R w w) (hRt : ∀ {w1 w2 w3}, R w1 w2 → R w2 w3 → R w1 w3) (hT : ∀ t v w w', T t v w → R w w' → T t v w')
    (hchk : tidy .any ops a0.tmps.size = true)
    (hpre : ∀ t, (∀ j : Nat, (ops[j]?).bind (·.dst) ≠ some t) → T t (a0.eval (.tmp t)) w0.drew)
    (hstep : ∀ (i : Nat) (o : Oper), ops[i]? = some o → ∀ a w, R w0.drew w → (∀ t, t ∈ o.looksAt ops → T t (a.eval (.tmp t)) w) → Oper.gives P ops o a w fun v w' => R w w' ∧ ∀ d, o.dst = some d → T d v w')
    (hend : ∀ a w, R w0.drew w → (∀ t, T t (a.eval (.tmp t)) w) → a.defers = a0.defers → a.tmps.size = a0.tmps.size → Q .normal a w) : (Code.region id ops true).wp P Q a0 w0 := by
  refine wp_region_any hm (any_each T R hRt hT hchk hstep hend ops.size _ a0 _ (by simp) (left_le _ _) (hR0 _) rfl rfl fun t ht => hpre t fun j hj => ?_)
  have := ht j hj
  cases ho : ops[j]? with
  | none => rw [ho] at hj; cases hj
  | some o =>
    have hlt : j < ops.size := (Array.getElem?_eq_some_iff.1 ho).1
    simp [hlt] at this
end
end Go.Proofs.Ytgnbaknmibncmaa

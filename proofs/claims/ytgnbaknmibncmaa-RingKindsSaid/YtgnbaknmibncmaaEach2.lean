/- The rule of XEach with a part that hangs on which operations have come up: for a region that draws its order and holds calls that turn what the call owns, each once. Nothing here speaks of the program. -/
import Derived.Test.YtgnbaknmibncmaaEach
namespace Go.Proofs.Ytgnbaknmibncmaa
section
variable {P : Program} {ops : Array Oper} {Q : Exit → Act → World → Prop} {md : Region.Mode}
theorem any_each2 {a0 : Act} (T : Tmp → Value → World → Prop) (R : World → World → Prop) (I : Array Bool → World → Prop) {W : World}
    (hRt : ∀ {w1 w2 w3}, R w1 w2 → R w2 w3 → R w1 w3) (hT : ∀ t v w w', T t v w → R w w' → T t v w')
    (hchk : tidy md ops a0.tmps.size = true)
    (hstep : ∀ (i : Nat) (o : Oper), ops[i]? = some o → ∀ listed a w, listed.size = ops.size → listed.getD i true = false → I listed w → R W w → (∀ t, t ∈ o.looksAt ops → T t (a.eval (.tmp t)) w) → Oper.gives P ops o a w fun v w' => R w w' ∧ I (listed.setIfInBounds i true) w' ∧ ∀ d, o.dst = some d → T d v w')
    (hend : ∀ listed a w, (∀ i, i < ops.size → listed.getD i false = true) → I listed w → R W w → (∀ t, T t (a.eval (.tmp t)) w) → a.defers = a0.defers → a.tmps.size = a0.tmps.size → Q .normal a w) :
    ∀ (fuel : Nat) (listed : Array Bool) (a : Act) (w : World), listed.size = ops.size → left listed ops.size ≤ fuel → I listed w → R W w → a.defers = a0.defers → a.tmps.size = a0.tmps.size →
      (∀ t, (∀ j : Nat, (ops[j]?).bind (·.dst) = some t → listed.getD j false = true) → T t (a.eval (.tmp t)) w) → wpAny P md ops Q fuel listed a w := by
  have hch : ∀ (i : Nat) (o : Oper), ops[i]? = some o → (∀ d, o.dst = some d → d < a0.tmps.size) ∧ (∀ e ∈ o.after, e.on < i) ∧ ∀ t ∈ o.looksAt ops, ∀ j : Nat, (ops[j]?).bind (·.dst) = some t → ∃ e ∈ o.after, e.on = j ∧ Region.binds md e = true := by
    intro i o hi
    have hlt : i < ops.size := (Array.getElem?_eq_some_iff.1 hi).1
    unfold tidy at hchk
    rw [List.all_eq_true] at hchk
    have h := hchk i (List.mem_range.2 hlt)
    rw [hi] at h
    simp only [Bool.and_eq_true] at h
    refine ⟨fun d hd => ?_, fun e he => ?_, fun t ht j hj => ?_⟩
    · have := h.1.1; rw [hd] at this; simpa using this
    · have := h.1.2; rw [Array.all_eq_true_iff_forall_mem] at this; simpa using this e he
    · have h2 := h.2
      rw [List.all_eq_true] at h2
      have h3 := h2 t ht
      rw [List.all_eq_true] at h3
      have hjlt : j < ops.size := by
        cases ho : ops[j]? with
        | none => rw [ho] at hj; cases hj
        | some o' => exact (Array.getElem?_eq_some_iff.1 ho).1
      have h4 := h3 j (List.mem_range.2 hjlt)
      rw [hj] at h4
      simp only [bne_self_eq_false, Bool.false_or, Array.any_eq_true] at h4
      obtain ⟨k, hk, h5⟩ := h4
      simp only [Bool.and_eq_true, beq_iff_eq] at h5
      exact ⟨o.after[k], Array.getElem_mem hk, h5.1, h5.2⟩
  have hin : ∀ (t : Tmp) (j : Nat), (ops[j]?).bind (·.dst) = some t → j < ops.size := by
    intro t j hj
    cases ho : ops[j]? with
    | none => rw [ho] at hj; cases hj
    | some o' => exact (Array.getElem?_eq_some_iff.1 ho).1
  have hdone : ∀ (listed : Array Bool) (a : Act) (w : World), listed.size = ops.size → I listed w → R W w → a.defers = a0.defers → a.tmps.size = a0.tmps.size →
      (∀ t, (∀ j : Nat, (ops[j]?).bind (·.dst) = some t → listed.getD j false = true) → T t (a.eval (.tmp t)) w) → Region.ready md ops listed = [] → Q .normal a w := by
    intro listed a w hl hi0 hW hd hs hI hr
    have hall : ∀ n i, i < n → i < ops.size → listed.getD i false = true := by
      intro n
      induction n with
      | zero => intro i hi; omega
      | succ n ih =>
        intro i hi hlt
        rcases Nat.lt_or_ge i n with h1 | h1
        · exact ih i h1 hlt
        · have hin : i = n := by omega
          subst hin
          have h' : i < listed.size := by omega
          cases hl : listed.getD i true with
          | true => simp [h'] at hl ⊢; exact hl
          | false =>
            exfalso
            have hm : i ∈ Region.ready md ops listed := by
              rw [mem_ready]
              refine ⟨hl, ops[i], Array.getElem?_eq_getElem hlt, fun e he _ => ?_⟩
              have he' := (hch i ops[i] (Array.getElem?_eq_getElem hlt)).2.1 e he
              exact ih e.on he' (by omega)
            rw [hr] at hm
            cases hm
    exact hend listed a w (fun i hi => hall (i + 1) i (by omega) hi) hi0 hW (fun t => hI t fun j hj => hall (j + 1) j (by omega) (hin t j hj)) hd hs
  intro fuel
  induction fuel with
  | zero =>
    intro listed a w hl hf hi0 hW hd hs hI
    have h0 : left listed ops.size = 0 := by omega
    have hr : Region.ready md ops listed = [] := by
      apply List.eq_nil_iff_forall_not_mem.2
      intro i hi
      obtain ⟨h1, o, ho, _⟩ := mem_ready.1 hi
      have hlt : i < ops.size := (Array.getElem?_eq_some_iff.1 ho).1
      have k := left_set h1 ops.size
      rw [if_pos hlt] at k
      omega
    exact ⟨hr, hdone listed a w hl hi0 hW hd hs hI hr⟩
  | succ fuel ih =>
    intro listed a w hl hf hi0 hW hd hs hI
    refine ⟨hdone listed a w hl hi0 hW hd hs hI, fun i hi => ?_⟩
    obtain ⟨h1, o, ho, hall⟩ := mem_ready.1 hi
    have hlt : i < ops.size := (Array.getElem?_eq_some_iff.1 ho).1
    obtain ⟨c1, c2, c3⟩ := hch i o ho
    refine Oper.gives_wpOp ho (hstep i o ho listed a w hl h1 hi0 hW fun t ht => hI t fun j hj => ?_) ?_
    · obtain ⟨e, he, h2, h3⟩ := c3 t ht j hj
      rw [← h2]
      exact hall e he h3
    · intro v w' ⟨hR, hi1, hv⟩
      have k := left_set h1 ops.size
      rw [if_pos hlt] at k
      refine ih _ _ _ (by simpa using hl) (by omega) hi1 (hRt hW hR) (by rw [put_defers]; exact hd) (by rw [put_size]; exact hs) fun t ht => ?_
      by_cases hdt : o.dst = some t
      · have e : (a.put o.dst v).eval (.tmp t) = v := by
          rw [hdt]
          exact eval_put_same (by rw [hs]; exact c1 t hdt)
        rw [e]
        exact hv t hdt
      · rw [eval_put_other hdt]
        refine hT t _ w w' (hI t fun j hj => ?_) hR
        have hji : i ≠ j := by
          rintro rfl
          rw [ho] at hj
          exact hdt hj
        have := ht j hj
        rw [getD_set_ne false hji] at this
        exact this

/-- **the rule** -/
theorem wp_region_each2 {id : Nat} {a0 : Act} {w0 : World} (hm : P.follows .mixedOrders = true) (T : Tmp → Value → World → Prop) (R : World → World → Prop) (I : Array Bool → World → Prop)
    (hI0 : I (Array.replicate ops.size false) w0.drew) (hR0 : ∀ w, R w w) (hRt : ∀ {w1 w2 w3}, R w1 w2 → R w2 w3 → R w1 w3) (hT : ∀ t v w w', T t v w → R w w' → T t v w')
    (hchk : tidy .any ops a0.tmps.size = true)
    (hpre : ∀ t, (∀ j : Nat, (ops[j]?).bind (·.dst) ≠ some t) → T t (a0.eval (.tmp t)) w0.drew)
    (hstep : ∀ (i : Nat) (o : Oper), ops[i]? = some o → ∀ listed a w, listed.size = ops.size → listed.getD i true = false → I listed w → R w0.drew w → (∀ t, t ∈ o.looksAt ops → T t (a.eval (.tmp t)) w) → Oper.gives P ops o a w fun v w' => R w w' ∧ I (listed.setIfInBounds i true) w' ∧ ∀ d, o.dst = some d → T d v w')
    (hend : ∀ listed a w, (∀ i, i < ops.size → listed.getD i false = true) → I listed w → R w0.drew w → (∀ t, T t (a.eval (.tmp t)) w) → a.defers = a0.defers → a.tmps.size = a0.tmps.size → Q .normal a w) : (Code.region id ops true).wp P Q a0 w0 := by
  refine wp_region_any hm (any_each2 T R I hRt hT hchk hstep hend ops.size _ a0 _ (by simp) (left_le _ _) hI0 (hR0 _) rfl rfl fun t ht => hpre t fun j hj => ?_)
  have := ht j hj
  cases ho : ops[j]? with
  | none => rw [ho] at hj; cases hj
  | some o =>
    have hlt : j < ops.size := (Array.getElem?_eq_some_iff.1 ho).1
    simp [hlt] at this
end
end Go.Proofs.Ytgnbaknmibncmaa

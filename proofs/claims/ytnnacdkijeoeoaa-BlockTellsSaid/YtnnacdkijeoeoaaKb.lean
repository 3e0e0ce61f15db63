/- Contracts and plain mathematics of earlier stages: Late, Late2. -/
import Derived.Test.YtnnacdkijeoeoaaKa
import Derived.BigCall
import Derived.Laws.Slices
namespace Go.Proofs.Ytnnacdkijeoeoaa
section
variable {P : Program} {ops : Array Oper} {Q : Exit → Act → World → Prop} {md : Region.Mode}
/-- k operations from the i-th on, one after the other, and the end -/
def Tail (P : Program) (ops : Array Oper) (Q : Exit → Act → World → Prop) : Nat → Nat → Act → World → Prop
  | 0, _, a, w => Q .normal a w
  | k + 1, i, a, w => ∃ o, ops[i]? = some o ∧ Oper.gives P ops o a w fun v w' => Tail P ops Q k (i + 1) (a.put o.dst v) w'
/-- does the i-th operation wait for the j-th, through others too? -/
def reachB (md : Region.Mode) (ops : Array Oper) : Nat → Nat → Nat → Bool
  | 0, _, _ => false
  | f + 1, i, j => match ops[i]? with
    | none => false
    | some o => (o.after.any fun e => e.on == j && Region.binds md e) || o.after.any fun e => Region.binds md e && reachB md ops f e.on j
/-- from the m-th on each operation waits for all ahead of it (through others too) -/
def lateB (md : Region.Mode) (ops : Array Oper) (m : Nat) : Bool :=
  (List.range ops.size).all fun i => decide (i < m) || (List.range i).all fun j => reachB md ops 5 i j
/-- what is listed waited for nothing that isn't -/
def Closed (md : Region.Mode) (ops : Array Oper) (listed : Array Bool) : Prop :=
  ∀ (i : Nat) (o : Oper), ops[i]? = some o → listed.getD i false = true → ∀ e ∈ o.after, Region.binds md e = true → listed.getD e.on false = true
theorem closed_set {listed : Array Bool} {i : Nat} {o : Oper} (h : Closed md ops listed) (ho : ops[i]? = some o) (hall : ∀ e ∈ o.after, Region.binds md e = true → listed.getD e.on false = true) : Closed md ops (listed.setIfInBounds i true) := by
  have up : ∀ j, listed.getD j false = true → (listed.setIfInBounds i true).getD j false = true := fun j hj => by
    by_cases e : i = j
    · subst e
      rw [Array.getD_eq_getD_getElem?] at hj ⊢
      have hlt : i < listed.size := by
        rcases Nat.lt_or_ge i listed.size with h | h
        · exact h
        · rw [Array.getElem?_eq_none h] at hj
          cases hj
      simp [hlt]
    · rw [getD_set_ne false e]
      exact hj
  intro k o' ho' hk e he hb
  by_cases hik : i = k
  · subst hik
    rw [ho] at ho'
    injection ho' with ho'
    subst ho'
    exact up _ (hall e he hb)
  · rw [getD_set_ne false hik] at hk
    exact up _ (h k o' ho' hk e he hb)
theorem reach_listed {listed : Array Bool} (hc : Closed md ops listed) : ∀ (f i j : Nat), reachB md ops f i j = true → (∀ (o : Oper), ops[i]? = some o → ∀ e ∈ o.after, Region.binds md e = true → listed.getD e.on false = true) → listed.getD j false = true
  | 0, _, _, h, _ => by cases h
  | f + 1, i, j, h, ha => by
    unfold reachB at h
    cases ho : ops[i]? with
    | none => rw [ho] at h; cases h
    | some o =>
      rw [ho] at h
      simp only [Bool.or_eq_true, Array.any_eq_true] at h
      rcases h with ⟨x, hx, h5⟩ | ⟨x, hx, h5⟩
      · simp only [Bool.and_eq_true, beq_iff_eq] at h5
        have := ha o ho o.after[x] (Array.getElem_mem hx) h5.2
        rw [h5.1] at this
        exact this
      · simp only [Bool.and_eq_true] at h5
        have hl := ha o ho o.after[x] (Array.getElem_mem hx) h5.1
        exact reach_listed hc f _ j h5.2 fun o' ho' => hc _ o' ho' hl
theorem late_of {m : Nat} (h : lateB md ops m = true) {listed : Array Bool} (hc : Closed md ops listed) {i : Nat} {o : Oper} (ho : ops[i]? = some o) (hm : m ≤ i) (hall : ∀ e ∈ o.after, Region.binds md e = true → listed.getD e.on false = true) {j : Nat} (hj : j < i) : listed.getD j false = true := by
  have hlt : i < ops.size := (Array.getElem?_eq_some_iff.1 ho).1
  unfold lateB at h
  rw [List.all_eq_true] at h
  have k := h i (List.mem_range.2 hlt)
  have hd : decide (i < m) = false := decide_eq_false (by omega)
  simp only [hd, Bool.false_or] at k
  rw [List.all_eq_true] at k
  exact reach_listed hc 5 i j (k j (List.mem_range.2 hj)) fun o' ho' => by
    rw [ho] at ho'
    injection ho' with ho'
    subst ho'
    exact hall
theorem any_tail {m : Nat} (hlate : lateB md ops m = true) : ∀ (k i fuel : Nat) (listed : Array Bool) (a : Act) (w : World), m ≤ i → i + k = ops.size → k ≤ fuel → listed.size = ops.size → (∀ j, j < ops.size → listed.getD j true = decide (j < i)) → Closed md ops listed →
    (∀ j (o : Oper), ops[j]? = some o → ∀ e ∈ o.after, e.on < j) → Tail P ops Q k i a w → wpAny P md ops Q fuel listed a w
  | 0, i, fuel, listed, a, w, hm, hi, _, hs, hl, hc, haf, ht => by
    have hr : Region.ready md ops listed = [] := by
      apply List.eq_nil_iff_forall_not_mem.2
      intro x hx
      obtain ⟨h1, o, ho, _⟩ := mem_ready.1 hx
      have hlt : x < ops.size := (Array.getElem?_eq_some_iff.1 ho).1
      have := hl x hlt
      rw [h1] at this
      have := of_decide_eq_false this.symm
      omega
    cases fuel with
    | zero => exact ⟨hr, ht⟩
    | succ fuel =>
      refine ⟨fun _ => ht, fun x hx => ?_⟩
      rw [hr] at hx
      cases hx
  | k + 1, i, fuel, listed, a, w, hm, hi, hf, hs, hl, hc, haf, ht => by
    obtain ⟨fuel, rfl⟩ : ∃ f, fuel = f + 1 := ⟨fuel - 1, by omega⟩
    obtain ⟨o, ho, hg⟩ := ht
    have hin : i ∈ Region.ready md ops listed := by
      rw [mem_ready]
      refine ⟨(hl i (by omega)).trans (decide_eq_false (Nat.lt_irrefl i)), o, ho, fun e he _ => ?_⟩
      have h1 := haf i o ho e he
      have h2 := hl e.on (by omega)
      rw [decide_eq_true h1] at h2
      have h3 : e.on < listed.size := by omega
      simp [h3] at h2 ⊢
      exact h2
    refine ⟨fun hr => ?_, fun x hx => ?_⟩
    · rw [hr] at hin
      cases hin
    · obtain ⟨h1, o', ho', hall⟩ := mem_ready.1 hx
      have hlt : x < ops.size := (Array.getElem?_eq_some_iff.1 ho').1
      have hxi : i ≤ x := by
        have := hl x hlt
        rw [h1] at this
        have := of_decide_eq_false this.symm
        omega
      have e : x = i := by
        rcases Nat.lt_or_ge i x with h | h
        · exfalso
          have h4 := late_of hlate hc ho' (by omega) hall h
          have h5 := hl i (by omega)
          rw [decide_eq_false (Nat.lt_irrefl i)] at h5
          have h6 : i < listed.size := by omega
          simp [h6] at h4 h5
          rw [h4] at h5
          cases h5
        · omega
      subst e
      refine Oper.gives_wpOp ho hg fun v w' hT => ?_
      refine any_tail hlate k (x + 1) fuel _ _ _ (by omega) (by omega) (by omega) (by simpa using hs) (fun j hj => ?_) (closed_set hc ho' hall) haf hT
      by_cases hjx : x = j
      · subst hjx
        have h6 : x < listed.size := by omega
        simp [h6]
      · rw [getD_set_ne true hjx, hl j hj]
        apply decide_eq_decide.2
        omega

theorem any_late {a0 : Act} (m : Nat) (T : Tmp → Value → World → Prop) (R : World → World → Prop) (J : Act → Array Bool → World → Prop) {W : World}
    (hRt : ∀ {w1 w2 w3}, R w1 w2 → R w2 w3 → R w1 w3) (hT : ∀ t v w w', T t v w → R w w' → T t v w')
    (hchk : tidy md ops a0.tmps.size = true) (hlate : lateB md ops m = true) (hmn : m ≤ ops.size)
    (hstep : ∀ (i : Nat) (o : Oper), ops[i]? = some o → i < m → ∀ listed a w, listed.size = ops.size → listed.getD i true = false → a.tmps.size = a0.tmps.size → (∀ e ∈ o.after, Region.binds md e = true → listed.getD e.on false = true) → R W w → J a listed w → (∀ t, (∀ j : Nat, (ops[j]?).bind (·.dst) = some t → listed.getD j false = true) → T t (a.eval (.tmp t)) w) → (∀ t, t ∈ o.looksAt ops → T t (a.eval (.tmp t)) w) → Oper.gives P ops o a w fun v w' => R w w' ∧ J (a.put o.dst v) (listed.setIfInBounds i true) w' ∧ ∀ d, o.dst = some d → T d v w')
    (hend : ∀ a listed w, (∀ j, j < m → listed.getD j false = true) → R W w → J a listed w → (∀ t, (∀ j : Nat, m ≤ j → (ops[j]?).bind (·.dst) ≠ some t) → T t (a.eval (.tmp t)) w) → a.defers = a0.defers → a.tmps.size = a0.tmps.size → Tail P ops Q (ops.size - m) m a w) :
    ∀ (fuel : Nat) (listed : Array Bool) (a : Act) (w : World), listed.size = ops.size → Closed md ops listed → left listed ops.size ≤ fuel → (∀ j, m ≤ j → j < ops.size → listed.getD j true = false) → R W w → J a listed w → a.defers = a0.defers → a.tmps.size = a0.tmps.size →
      (∀ t, (∀ j : Nat, (ops[j]?).bind (·.dst) = some t → listed.getD j false = true) → T t (a.eval (.tmp t)) w) → wpAny P md ops Q fuel listed a w := by
  have hch : ∀ (i : Nat) (o : Oper), ops[i]? = some o → (∀ d, o.dst = some d → d < a0.tmps.size) ∧ (∀ e ∈ o.after, e.on < i) ∧ ∀ t ∈ o.looksAt ops, ∀ j : Nat, (ops[j]?).bind (·.dst) = some t → ∃ e ∈ o.after, e.on = j ∧ Region.binds md e = true := by
    intro i o hi
    have hlt : i < ops.size := (Array.getElem?_eq_some_iff.1 hi).1
    unfold tidy at hchk
    rw [List.all_eq_true] at hchk
    have h := hchk i (List.mem_range.2 hlt)
    rw [hi] at h
    simp only [Bool.and_eq_true] at h
    refine ⟨fun d hd => ?_, fun e he => ?_, fun t ht j hj => ?_⟩
    · have := h.1.1; rw [hd] at this; simpa using this
    · have := h.1.2; rw [Array.all_eq_true_iff_forall_mem] at this; simpa using this e he
    · have h2 := h.2
      rw [List.all_eq_true] at h2
      have h3 := h2 t ht
      rw [List.all_eq_true] at h3
      have hjlt : j < ops.size := by
        cases ho : ops[j]? with
        | none => rw [ho] at hj; cases hj
        | some o' => exact (Array.getElem?_eq_some_iff.1 ho).1
      have h4 := h3 j (List.mem_range.2 hjlt)
      rw [hj] at h4
      simp only [bne_self_eq_false, Bool.false_or, Array.any_eq_true] at h4
      obtain ⟨k, hk, h5⟩ := h4
      simp only [Bool.and_eq_true, beq_iff_eq] at h5
      exact ⟨o.after[k], Array.getElem_mem hk, h5.1, h5.2⟩
  have haf : ∀ j (o : Oper), ops[j]? = some o → ∀ e ∈ o.after, e.on < j := fun j o ho => (hch j o ho).2.1
  have hin : ∀ (t : Tmp) (j : Nat), (ops[j]?).bind (·.dst) = some t → j < ops.size := by
    intro t j hj
    cases ho : ops[j]? with
    | none => rw [ho] at hj; cases hj
    | some o' => exact (Array.getElem?_eq_some_iff.1 ho).1
  intro fuel
  induction fuel with
  | zero =>
    intro listed a w hl hcl hf hlt hW hJ hd hs hI
    have h0 : left listed ops.size = 0 := by omega
    have hall : ∀ j, j < ops.size → listed.getD j true = true := by
      intro j hj
      cases hc : listed.getD j true with
      | true => rfl
      | false =>
        have k := left_set hc ops.size
        rw [if_pos hj] at k
        omega
    have hm : m = ops.size := by
      rcases Nat.lt_or_ge m ops.size with h | h
      · have := hlt m (Nat.le_refl m) h
        rw [hall m h] at this
        cases this
      · omega
    refine any_tail hlate 0 ops.size 0 listed a w hmn (by omega) (Nat.le_refl _) hl (fun j hj => by rw [hall j hj, decide_eq_true hj]) hcl haf ?_
    have := hend a listed w (fun j hj => by
      have h2 := hall j (by omega)
      have h3 : j < listed.size := by omega
      simp [h3] at h2 ⊢
      exact h2) hW hJ (fun t ht => hI t fun j hj => ?_) hd hs
    · rw [hm, Nat.sub_self] at this
      exact this
    · have h1 := hin t j hj
      have h2 := hall j h1
      have h3 : j < listed.size := by omega
      simp [h3] at h2 ⊢
      exact h2
  | succ fuel ih =>
    intro listed a w hl hcl hf hlt hW hJ hd hs hI
    by_cases hall : ∀ j, j < m → listed.getD j true = true
    · have hk : left listed ops.size = ops.size - m := by
        have key : ∀ n, n ≤ ops.size → left listed n = n - m := by
          intro n
          induction n with
          | zero => intro _; simp [left]
          | succ n ihn =>
            intro hn
            unfold left
            rw [ihn (by omega)]
            by_cases hnm : n < m
            · rw [hall n hnm, if_neg (by simp)]
              omega
            · rw [hlt n (by omega) (by omega), if_pos rfl]
              omega
        exact key ops.size (Nat.le_refl _)
      refine any_tail hlate (ops.size - m) m (fuel + 1) listed a w (Nat.le_refl _) (by omega) (by omega) hl (fun j hj => ?_) hcl haf (hend a listed w (fun j hj => by
        have h2 := hall j hj
        have h3 : j < listed.size := by omega
        simp [h3] at h2 ⊢
        exact h2) hW hJ (fun t ht => hI t fun j hj => ?_) hd hs)
      · by_cases h : j < m
        · rw [hall j h, decide_eq_true h]
        · rw [hlt j (by omega) hj, decide_eq_false h]
      · have h1 := hin t j hj
        have hjm : j < m := by
          rcases Nat.lt_or_ge j m with h | h
          · exact h
          · exact absurd hj (ht j h)
        have h2 := hall j hjm
        have h3 : j < listed.size := by omega
        simp [h3] at h2 ⊢
        exact h2
    · refine ⟨fun hr => ?_, fun i hi => ?_⟩
      · exfalso
        apply hall
        have step : ∀ n i, i < n → i < m → listed.getD i true = true := by
          intro n
          induction n with
          | zero => intro i hi; omega
          | succ n ihn =>
            intro i hi him
            rcases Nat.lt_or_ge i n with h1 | h1
            · exact ihn i h1 him
            · have e : i = n := by omega
              subst e
              cases hc : listed.getD i true with
              | true => rfl
              | false =>
                exfalso
                have hm : i ∈ Region.ready md ops listed := by
                  rw [mem_ready]
                  refine ⟨hc, ops[i]'(by omega), Array.getElem?_eq_getElem (by omega), fun e he _ => ?_⟩
                  have he' := haf i _ (Array.getElem?_eq_getElem (by omega)) e he
                  have h2 := ihn e.on he' (by omega)
                  have h3 : e.on < listed.size := by omega
                  simp [h3] at h2 ⊢
                  exact h2
                rw [hr] at hm
                cases hm
        exact fun j hj => step (j + 1) j (by omega) hj
      · obtain ⟨h1, o, ho, hal⟩ := mem_ready.1 hi
        have hlt' : i < ops.size := (Array.getElem?_eq_some_iff.1 ho).1
        have him : i < m := by
          rcases Nat.lt_or_ge i m with h | h
          · exact h
          · exfalso
            apply hall
            intro j hj
            have h4 := late_of hlate hcl ho h hal (j := j) (by omega)
            have h5 : j < listed.size := by omega
            simp [h5] at h4 ⊢
            exact h4
        obtain ⟨c1, c2, c3⟩ := hch i o ho
        refine Oper.gives_wpOp ho (hstep i o ho him listed a w hl h1 hs hal hW hJ hI fun t ht => hI t fun j hj => ?_) ?_
        · obtain ⟨e, he, h2, h3⟩ := c3 t ht j hj
          rw [← h2]
          exact hal e he h3
        · intro v w' ⟨hR, hJ', hv⟩
          have k := left_set h1 ops.size
          rw [if_pos hlt'] at k
          refine ih _ _ _ (by simpa using hl) (closed_set hcl ho hal) (by omega) (fun j hj hj2 => ?_) (hRt hW hR) hJ' (by rw [put_defers]; exact hd) (by rw [put_size]; exact hs) fun t ht => ?_
          · rw [getD_set_ne true (by omega)]
            exact hlt j hj hj2
          · by_cases hdt : o.dst = some t
            · have e : (a.put o.dst v).eval (.tmp t) = v := by
                rw [hdt]
                exact eval_put_same (by rw [hs]; exact c1 t hdt)
              rw [e]
              exact hv t hdt
            · rw [eval_put_other hdt]
              refine hT t _ w w' (hI t fun j hj => ?_) hR
              have hji : i ≠ j := by
                rintro rfl
                rw [ho] at hj
                exact hdt hj
              have := ht j hj
              rw [getD_set_ne false hji] at this
              exact this

/-- **the rule** -/
theorem wp_region_late {id : Nat} {a0 : Act} {w0 : World} (hm : P.follows .mixedOrders = true) (m : Nat) (T : Tmp → Value → World → Prop) (R : World → World → Prop) (J : Act → Array Bool → World → Prop) (hJ0 : J a0 (Array.replicate ops.size false) w0.drew)
    (hR0 : ∀ w, R w w) (hRt : ∀ {w1 w2 w3}, R w1 w2 → R w2 w3 → R w1 w3) (hT : ∀ t v w w', T t v w → R w w' → T t v w')
    (hchk : tidy .any ops a0.tmps.size = true) (hlate : lateB .any ops m = true) (hmn : m ≤ ops.size)
    (hpre : ∀ t, (∀ j : Nat, (ops[j]?).bind (·.dst) ≠ some t) → T t (a0.eval (.tmp t)) w0.drew)
    (hstep : ∀ (i : Nat) (o : Oper), ops[i]? = some o → i < m → ∀ listed a w, listed.size = ops.size → listed.getD i true = false → a.tmps.size = a0.tmps.size → (∀ e ∈ o.after, Region.binds .any e = true → listed.getD e.on false = true) → R w0.drew w → J a listed w → (∀ t, (∀ j : Nat, (ops[j]?).bind (·.dst) = some t → listed.getD j false = true) → T t (a.eval (.tmp t)) w) → (∀ t, t ∈ o.looksAt ops → T t (a.eval (.tmp t)) w) → Oper.gives P ops o a w fun v w' => R w w' ∧ J (a.put o.dst v) (listed.setIfInBounds i true) w' ∧ ∀ d, o.dst = some d → T d v w')
    (hend : ∀ a listed w, (∀ j, j < m → listed.getD j false = true) → R w0.drew w → J a listed w → (∀ t, (∀ j : Nat, m ≤ j → (ops[j]?).bind (·.dst) ≠ some t) → T t (a.eval (.tmp t)) w) → a.defers = a0.defers → a.tmps.size = a0.tmps.size → Tail P ops Q (ops.size - m) m a w) : (Code.region id ops true).wp P Q a0 w0 := by
  refine wp_region_any hm (any_late m T R J hRt hT hchk hlate hmn hstep hend ops.size _ a0 _ (by simp) (fun i _ _ h => ?_) (left_le _ _) (fun j _ hj => by simp [hj]) (hR0 _) hJ0 rfl rfl fun t ht => hpre t fun j hj => ?_)
  · exfalso
    rw [Array.getD_eq_getD_getElem?, Array.getElem?_replicate] at h
    split at h <;> simp at h
  have := ht j hj
  cases ho : ops[j]? with
  | none => rw [ho] at hj; cases hj
  | some o =>
    have hlt : j < ops.size := (Array.getElem?_eq_some_iff.1 ho).1
    simp [hlt] at this
end
end Go.Proofs.Ytnnacdkijeoeoaa

namespace Go.Proofs.Ytnnacdkijeoeoaa
open Go.RowKit

/-- what a slot holds, whatever is laid behind it -/
structure Sp where
  p : Value → World → Prop
  st : ∀ v w w', p v w → Fr (fun _ => False) w w' → p v w'
def Sp.any : Sp := ⟨fun _ _ => True, fun _ _ _ _ _ => trivial⟩
def Sp.val (u : Value) : Sp := ⟨fun v _ => v = u, fun _ _ _ h _ => h⟩
/-- a slice just laid: its block is not below z -/
def Sp.made (z : Nat) (t : TypeId) (n : Nat) (cs : Array Value) : Sp := ⟨fun v w => ∃ b, v = .slice (some ⟨b, 0, none⟩) n n ∧ Is w b t cs ∧ z ≤ b, fun _ _ _ ⟨b, e, h, hz⟩ f => ⟨b, e, h.fr f id, hz⟩⟩
/-- a box just laid -/
def Sp.box (z : Nat) (t : TypeId) (cs : Array Value) : Sp := ⟨fun v w => ∃ b, v = .pointer (some ⟨b, 0, none⟩) ∧ Is w b t cs ∧ z ≤ b, fun _ _ _ ⟨b, e, h, hz⟩ f => ⟨b, e, h.fr f id, hz⟩⟩
def sp (tbl : List (Nat × Sp)) (t : Nat) : Sp := (tbl.lookup t).getD .any

/-- the frame behind a region: the slots that it writes hold what they hold, the others what they held -/
def laidL (written : List Nat) (val : Nat → Value) (ts : Array Value) : Array Value := written.foldl (fun ts t => ts.setIfInBounds t (val t)) ts
theorem laidL_size (val : Nat → Value) : ∀ (written : List Nat) (ts : Array Value), (laidL written val ts).size = ts.size
  | [], _ => rfl
  | t :: r, ts => by
    have := laidL_size val r (ts.setIfInBounds t (val t))
    unfold laidL at this ⊢
    rw [List.foldl_cons, this]
    simp
theorem laidL_at (val : Nat → Value) : ∀ (written : List Nat) (ts : Array Value) (i : Nat), i < ts.size → (laidL written val ts)[i]? = if written.contains i = true then some (val i) else ts[i]?
  | [], _, _, _ => by simp [laidL]
  | t :: r, ts, i, h => by
    have ih := laidL_at val r (ts.setIfInBounds t (val t)) i (by simpa using h)
    unfold laidL at ih ⊢
    rw [List.foldl_cons, ih]
    by_cases hr : r.contains i = true
    · rw [if_pos hr, if_pos (by simp at hr; simp [hr])]
    · rw [if_neg hr, Array.getElem?_setIfInBounds]
      by_cases ht : t = i
      · subst ht
        rw [if_pos rfl, if_pos h, if_pos (by simp)]
      · rw [if_neg ht, if_neg (by simp at hr; simp [hr]; exact fun e => ht e.symm)]
theorem givesL_mono {P : Program} {ops : Array Oper} {o : Oper} {a : Act} {w : World} {φ ψ : Value → World → Prop} (k : Oper.gives P ops o a w φ) (m : ∀ v w', φ v w' → ψ v w') : Oper.gives P ops o a w ψ := by
  unfold Oper.gives at k ⊢
  by_cases hw : Region.wanted o (yielded ops a.tmps) = true
  · rw [if_pos hw] at k ⊢
    revert k
    generalize (execOp a.eval o).run P w = r
    intro k
    match r, k with
    | .ok (.value v) w', k => exact m _ _ k
    | .ok .skip w', k => exact m _ _ k
    | .ok (.enter f args) w', k => exact Calls.mono k fun e w'' ⟨v, he, hv⟩ => ⟨v, he, m _ _ hv⟩
  · rw [if_neg hw] at k ⊢
    exact m _ _ k
/-- what an operand holds, by the table or as it was ahead of the region -/
def holdsL (written : List Nat) (tbl : List (Nat × Sp)) (a0 : Act) (t : Nat) (v : Value) (w : World) : Prop := if written.contains t = true then (sp tbl t).p v w else v = a0.eval (.tmp t)

theorem region_lateJ {P : Program} {ops : Array Oper} {Q : Exit → Act → World → Prop} {id : Nat} {a0 : Act} {w0 : World} (m : Nat) (written : List Nat) (tbl : List (Nat × Sp)) (J : Act → Array Bool → World → Prop) (hJ0 : J a0 (Array.replicate ops.size false) w0.drew) (hm : P.follows .mixedOrders = true)
    (hchk : tidy .any ops a0.tmps.size = true) (hlate : lateB .any ops m = true) (hmn : m ≤ ops.size) (hw1 : ops.toList.all (fun o => match o.dst with | some d => written.contains d | none => true) = true) (hw2 : written.all (fun t => ops.toList.any fun o => o.dst == some t) = true)
    (hw3 : ((List.range ops.size).all fun i => decide (i < m) || ((ops[i]?).bind (·.dst)).isNone) = true)
    (hstep : ∀ (i : Nat) (o : Oper), ops[i]? = some o → i < m → ∀ listed a w, listed.size = ops.size → listed.getD i true = false → a.tmps.size = a0.tmps.size → (∀ e ∈ o.after, Region.binds .any e = true → listed.getD e.on false = true) → Fr (fun _ => False) w0.drew w → J a listed w → (∀ t, (∀ j : Nat, (ops[j]?).bind (·.dst) = some t → listed.getD j false = true) → holdsL written tbl a0 t (a.eval (.tmp t)) w) → (∀ t, t ∈ o.looksAt ops → holdsL written tbl a0 t (a.eval (.tmp t)) w) → Oper.gives P ops o a w fun v w' => Fr (fun _ => False) w w' ∧ J (a.put o.dst v) (listed.setIfInBounds i true) w' ∧ ∀ d, o.dst = some d → (sp tbl d).p v w')
    (hend : ∀ val listed w, (∀ j, j < m → listed.getD j false = true) → Fr (fun _ => False) w0.drew w → J { tmps := laidL written val a0.tmps, defers := a0.defers } listed w → (∀ t ∈ written, (sp tbl t).p (val t) w) → Tail P ops Q (ops.size - m) m { tmps := laidL written val a0.tmps, defers := a0.defers } w) : (Code.region id ops true).wp P Q a0 w0 := by
  have hin : ∀ (i : Nat) (o : Oper), ops[i]? = some o → ∀ d, o.dst = some d → written.contains d = true := by
    intro i o ho d hd
    rw [List.all_eq_true] at hw1
    have hm := Array.mem_of_getElem? ho
    have := hw1 o (by simpa using hm)
    rw [hd] at this
    exact this
  refine wp_region_late hm m (fun t v w => holdsL written tbl a0 t v w) (Fr (fun _ => False)) J hJ0 (Fr.refl _) (fun h k => h.trans k (fun _ _ h => h)) (fun t v w w' h f => ?_) hchk hlate hmn (fun t ht => ?_) (fun i o ho him listed a w hls hnl hts hrd hf hJ hI hl => ?_) (fun a listed w hall hf hJ hT h1 h2 => ?_)
  · unfold holdsL at h ⊢
    by_cases hc : written.contains t = true
    · rw [if_pos hc] at h ⊢
      exact (sp tbl t).st _ _ _ h f
    · rw [if_neg hc] at h ⊢
      exact h
  · unfold holdsL
    by_cases hc : written.contains t = true
    · exfalso
      rw [List.all_eq_true] at hw2
      have h3 := hw2 t (by simpa using hc)
      rw [List.any_eq_true] at h3
      obtain ⟨o, ho, he⟩ := h3
      obtain ⟨j, hj, hjo⟩ := List.mem_iff_getElem.1 ho
      refine ht j ?_
      rw [Array.getElem?_eq_getElem (by simpa using hj)]
      have e : ops[j]'(by simpa using hj) = o := by simpa using hjo
      rw [e]
      simpa using he
    · rw [if_neg hc]
  · refine givesL_mono (hstep i o ho him listed a w hls hnl hts hrd hf hJ hI hl) fun v w' ⟨h1, hj, h2⟩ => ⟨h1, hj, fun d hd => ?_⟩
    unfold holdsL
    rw [if_pos (hin i o ho d hd)]
    exact h2 d hd
  · have hnl : ∀ t (j : Nat), m ≤ j → (ops[j]?).bind (·.dst) ≠ some t := by
      intro t j hj hc
      have hlt : j < ops.size := by
        cases ho : ops[j]? with
        | none => rw [ho] at hc; cases hc
        | some o' => exact (Array.getElem?_eq_some_iff.1 ho).1
      rw [List.all_eq_true] at hw3
      have k := hw3 j (List.mem_range.2 hlt)
      rw [decide_eq_false (by omega), Bool.false_or, hc] at k
      cases k
    have hT' := fun t => hT t (hnl t)
    have key : a = { tmps := laidL written (fun t => a.eval (.tmp t)) a0.tmps, defers := a0.defers } := by
      obtain ⟨ts, ds⟩ := a
      simp only at h1 h2
      subst h1
      simp only [Act.mk.injEq, and_true]
      apply Array.ext_getElem?
      intro i
      rcases Nat.lt_or_ge i ts.size with hi | hi
      · rw [laidL_at _ _ _ _ (by omega)]
        by_cases hc : written.contains i = true
        · rw [if_pos hc]
          simp [Act.eval, hi]
        · rw [if_neg hc]
          have := hT' i
          unfold holdsL at this
          rw [if_neg hc] at this
          simp only [Act.eval] at this
          rw [Array.getElem?_eq_getElem hi, Array.getElem?_eq_getElem (by omega)]
          simpa [hi, (show i < a0.tmps.size by omega)] using this
      · rw [Array.getElem?_eq_none hi, Array.getElem?_eq_none (by rw [laidL_size]; omega)]
    rw [key] at hJ ⊢
    exact hend (fun t => a.eval (.tmp t)) listed w hall hf hJ fun t ht => by
      have := hT' t
      unfold holdsL at this
      rw [if_pos (by simpa using ht)] at this
      exact this

/-- of these operations and their slots: what came up lies apart -/
def Dis (M : List (Nat × Nat)) (foot : Nat → Value → Nat → Prop) (a : Act) (listed : Array Bool) : Prop :=
  ∀ p ∈ M, ∀ q ∈ M, p.2 ≠ q.2 → listed.getD p.1 false = true → listed.getD q.1 false = true → ∀ b, foot p.2 (a.eval (.tmp p.2)) b → ¬ foot q.2 (a.eval (.tmp q.2)) b
/-- each of these slots is written by just its operation -/
def onceOpB (ops : Array Oper) (M : List (Nat × Nat)) : Bool := M.all fun p => (((ops[p.1]?).bind (·.dst)) == some p.2) && (List.range ops.size).all fun j => ((ops[j]?).bind (·.dst)) != some p.2 || j == p.1
theorem once_of {ops : Array Oper} {M : List (Nat × Nat)} (h : onceOpB ops M = true) {p : Nat × Nat} (hp : p ∈ M) : (ops[p.1]?).bind (·.dst) = some p.2 ∧ ∀ j, (ops[j]?).bind (·.dst) = some p.2 → j = p.1 := by
  unfold onceOpB at h
  rw [List.all_eq_true] at h
  have k := h p hp
  rw [Bool.and_eq_true, beq_iff_eq, List.all_eq_true] at k
  refine ⟨k.1, fun j hj => ?_⟩
  have hlt : j < ops.size := by
    cases ho : ops[j]? with
    | none => rw [ho] at hj; cases hj
    | some o => exact (Array.getElem?_eq_some_iff.1 ho).1
  have e := k.2 j (List.mem_range.2 hlt)
  rw [hj] at e
  simpa using e
theorem region_lateD {P : Program} {ops : Array Oper} {Q : Exit → Act → World → Prop} {id : Nat} {a0 : Act} {w0 : World} (m : Nat) (written : List Nat) (tbl : List (Nat × Sp)) (M : List (Nat × Nat)) (foot : Nat → Value → Nat → Prop) (hM : onceOpB ops M = true) (hMw : (M.all fun p => written.contains p.2) = true) (hMm : (M.all fun p => decide (p.1 < m)) = true)
    (hbelow : ∀ p ∈ M, ∀ v w, (sp tbl p.2).p v w → ∀ b, foot p.2 v b → b < w.heap.size) (hm : P.follows .mixedOrders = true)
    (hchk : tidy .any ops a0.tmps.size = true) (hlate : lateB .any ops m = true) (hmn : m ≤ ops.size) (hw1 : ops.toList.all (fun o => match o.dst with | some d => written.contains d | none => true) = true) (hw2 : written.all (fun t => ops.toList.any fun o => o.dst == some t) = true)
    (hw3 : ((List.range ops.size).all fun i => decide (i < m) || ((ops[i]?).bind (·.dst)).isNone) = true)
    (hstep : ∀ (i : Nat) (o : Oper), ops[i]? = some o → i < m → ∀ listed a w, (∀ e ∈ o.after, Region.binds .any e = true → listed.getD e.on false = true) → Fr (fun _ => False) w0.drew w → Dis M foot a listed → (∀ t, t ∈ o.looksAt ops → holdsL written tbl a0 t (a.eval (.tmp t)) w) → Oper.gives P ops o a w fun v w' => Fr (fun _ => False) w w' ∧ (∀ p ∈ M, p.1 = i → ∀ b, foot p.2 v b → w.heap.size ≤ b) ∧ ∀ d, o.dst = some d → (sp tbl d).p v w')
    (hend : ∀ val w, Fr (fun _ => False) w0.drew w → (∀ p ∈ M, ∀ q ∈ M, p.2 ≠ q.2 → ∀ b, foot p.2 (({ tmps := laidL written val a0.tmps, defers := a0.defers } : Act).eval (.tmp p.2)) b → ¬ foot q.2 (({ tmps := laidL written val a0.tmps, defers := a0.defers } : Act).eval (.tmp q.2)) b) → (∀ t ∈ written, (sp tbl t).p (val t) w) → Tail P ops Q (ops.size - m) m { tmps := laidL written val a0.tmps, defers := a0.defers } w) : (Code.region id ops true).wp P Q a0 w0 := by
  have hMs : ∀ p ∈ M, written.contains p.2 = true := by
    rw [List.all_eq_true] at hMw
    exact hMw
  refine region_lateJ m written tbl (fun a listed _ => Dis M foot a listed) (fun p _ q _ _ h => ?_) hm hchk hlate hmn hw1 hw2 hw3 (fun i o ho him listed a w hls hnl hts hrd hf hJ hI hl => ?_) (fun val listed w hall hf hJ hT => ?_)
  · exfalso
    rw [Array.getD_eq_getD_getElem?, Array.getElem?_replicate] at h
    split at h <;> simp at h
  · have htd : ∀ d, o.dst = some d → d < a.tmps.size := fun d hd => by
      have hlt : i < ops.size := (Array.getElem?_eq_some_iff.1 ho).1
      unfold tidy at hchk
      rw [List.all_eq_true] at hchk
      have h := hchk i (List.mem_range.2 hlt)
      rw [ho] at h
      simp only [Bool.and_eq_true] at h
      have h1 := h.1.1
      rw [hd] at h1
      rw [hts]
      simpa using h1
    refine givesL_mono (hstep i o ho him listed a w hrd hf hJ hl) fun v w' ⟨h1, h2, h3⟩ => ⟨h1, ?_, h3⟩
    have old : ∀ p ∈ M, p.1 ≠ i → (a.put o.dst v).eval (.tmp p.2) = a.eval (.tmp p.2) ∧ (listed.setIfInBounds i true).getD p.1 false = listed.getD p.1 false := fun p hp hne => by
      refine ⟨eval_put_other fun e => hne ?_, getD_set_ne false (fun e => hne e.symm)⟩
      exact ((once_of hM hp).2 i (by rw [ho]; exact e)).symm
    have new : ∀ p ∈ M, p.1 = i → (a.put o.dst v).eval (.tmp p.2) = v := fun p hp he => by
      have e := (once_of hM hp).1
      rw [he, ho] at e
      have e2 : o.dst = some p.2 := e
      rw [e2]
      exact eval_put_same (htd p.2 e2)
    have low : ∀ q ∈ M, listed.getD q.1 false = true → ∀ b, foot q.2 (a.eval (.tmp q.2)) b → b < w.heap.size := fun q hq hlq b hb => by
      have t := hI q.2 fun j hj => by rw [(once_of hM hq).2 j hj]; exact hlq
      unfold holdsL at t
      rw [if_pos (hMs q hq)] at t
      exact hbelow q hq _ _ t b hb
    intro p hp q hq hne lp lq b hb hb'
    by_cases ep : p.1 = i
    · by_cases eq : q.1 = i
      · apply hne
        have e1 := (once_of hM hp).1
        have e2 := (once_of hM hq).1
        rw [ep] at e1
        rw [eq, e1] at e2
        injection e2
      · rw [(old q hq eq).1] at hb'
        rw [(old q hq eq).2] at lq
        rw [new p hp ep] at hb
        have := h2 p hp ep b hb
        have := low q hq lq b hb'
        omega
    · rw [(old p hp ep).1] at hb
      rw [(old p hp ep).2] at lp
      by_cases eq : q.1 = i
      · rw [new q hq eq] at hb'
        have := h2 q hq eq b hb'
        have := low p hp lp b hb
        omega
      · rw [(old q hq eq).1] at hb'
        rw [(old q hq eq).2] at lq
        exact hJ p hp q hq hne lp lq b hb hb'
  · rw [List.all_eq_true] at hMm
    exact hend val w hf (fun p hp q hq hne => hJ p hp q hq hne (hall p.1 (by simpa using hMm p hp)) (hall q.1 (by simpa using hMm q hq))) hT

section
variable {P : Program} {ops : Array Oper} {a : Act} {w : World} {φ : Value → World → Prop}
theorem l_of {o : Oper} {w' : World} {v : Value} (hg : o.guard = none) (h : (execOp a.eval o).run P w = .ok (.value v) w') (k : φ v w') : Oper.gives P ops o a w φ := by
  unfold Oper.gives Region.wanted
  rw [hg, if_pos rfl, h]
  exact k
theorem l_skip {o : Oper} {w' : World} (hg : o.guard = none) (h : (execOp a.eval o).run P w = .ok .skip w') (k : φ undef w') : Oper.gives P ops o a w φ := by
  unfold Oper.gives Region.wanted
  rw [hg, if_pos rfl, h]
  exact k
/-- the last operation, a store -/
theorem tail1 {Q : Exit → Act → World → Prop} {i : Nat} {o : Oper} {w' : World} (ho : ops[i]? = some o) (hd : o.dst = none) (hg : o.guard = none) (h : (execOp a.eval o).run P w = .ok .skip w') (k : Q .normal a w') : Tail P ops Q 1 i a w :=
  ⟨o, ho, l_skip hg h (by show Q .normal (a.put o.dst undef) w'; rw [hd]; exact k)⟩
theorem putD {tbl : List (Nat × Sp)} {M : List (Nat × Nat)} {foot : Nat → Value → Nat → Prop} {i d : Nat} {v : Value} {w w' : World} (f : Fr (fun _ => False) w w') (hM : ∀ p ∈ M, p.1 = i → ∀ b, foot p.2 v b → w.heap.size ≤ b) (h : (sp tbl d).p v w') : Fr (fun _ => False) w w' ∧ (∀ p ∈ M, p.1 = i → ∀ b, foot p.2 v b → w.heap.size ≤ b) ∧ ∀ d', some d = some d' → (sp tbl d').p v w' :=
  ⟨f, hM, fun d' e => by injection e with e; subst e; exact h⟩
end
end Go.Proofs.Ytnnacdkijeoeoaa


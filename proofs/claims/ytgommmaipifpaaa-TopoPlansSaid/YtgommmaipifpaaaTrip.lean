/- Plain mathematics of a train's way: it lies in the plan, hangs on the points in it alone, and goes back the way it came. -/
import Derived.Test.YtgommmaipifpaaaPlan
namespace Go.Proofs.Ytgommmaipifpaaa

section
variable {l : List Sec} {js : List Jo} {p q : List Int}

theorem trip_in : ∀ (f : Nat) (seen : List Bool) (s i : Int) (x : St), x ∈ followF f l js p seen s i → ∃ k : Nat, x.sec = k ∧ k < l.length
  | 0, _, _, _, _, h => by simp [followF] at h
  | f + 1, seen, s, i, x, h => by
    rw [followF] at h
    split at h
    · rename_i h0
      rw [Bool.and_eq_true] at h0
      obtain ⟨k, rfl, hk⟩ := isSecB_true h0.1
      split at h
      · rcases List.mem_cons.1 h with rfl | h
        · exact ⟨k, rfl, hk⟩
        · split at h
          · exact trip_in f _ _ _ x h
          · simp at h
      · have : x = ⟨k, i, -1⟩ := by simpa using h
        subst this
        exact ⟨k, rfl, hk⟩
    · simp at h
theorem trip_short : ∀ (f : Nat) (seen : List Bool) (s i : Int), (followF f l js p seen s i).length ≤ f
  | 0, _, _, _ => by simp [followF]
  | f + 1, seen, s, i => by
    rw [followF]
    split
    · split
      · rw [List.length_cons]
        split
        · have := trip_short f (seen.set s.toNat true) (nextS js s (wayOut (kindOf l s.toNat) i (posAt p s.toNat))) (nextE js s (wayOut (kindOf l s.toNat) i (posAt p s.toNat)))
          omega
        · simp
      · simp
    · simp

/-- The way hangs on the positions of the points in it alone. -/
theorem trip_blind : ∀ (f : Nat) (seen : List Bool) (s i : Int), (∀ x ∈ followF f l js p seen s i, kindOf l x.sec.toNat = 1 → posAt q x.sec.toNat = posAt p x.sec.toNat) →
    followF f l js q seen s i = followF f l js p seen s i
  | 0, _, _, _, _ => rfl
  | f + 1, seen, s, i, h => by
    rw [followF] at h
    rw [followF, followF]
    by_cases h0 : (isSecB l.length s && !seenAt seen s.toNat) = true
    · rw [if_pos h0] at h
      rw [if_pos h0, if_pos h0]
      have hw : wayOk (kindOf l s.toNat) i (posAt q s.toNat) = wayOk (kindOf l s.toNat) i (posAt p s.toNat) ∧ wayOut (kindOf l s.toNat) i (posAt q s.toNat) = wayOut (kindOf l s.toNat) i (posAt p s.toNat) := by
        by_cases hk : kindOf l s.toNat = 1
        · have : posAt q s.toNat = posAt p s.toNat := by
            by_cases hok : wayOk (kindOf l s.toNat) i (posAt p s.toNat) = true
            · rw [if_pos hok] at h
              exact h ⟨s, i, _⟩ List.mem_cons_self hk
            · rw [if_neg hok] at h
              exact h ⟨s, i, -1⟩ (by simp) hk
          rw [this]
          exact ⟨rfl, rfl⟩
        · exact way_blind _ _ _ _ hk
      rw [hw.1, hw.2]
      by_cases hok : wayOk (kindOf l s.toNat) i (posAt p s.toNat) = true
      · rw [if_pos hok] at h
        rw [if_pos hok, if_pos hok]
        by_cases hn : nextOk js s (wayOut (kindOf l s.toNat) i (posAt p s.toNat)) = true
        · rw [if_pos hn] at h
          rw [if_pos hn, if_pos hn, trip_blind f _ _ _ (fun x hx => h x (by simp [hx]))]
        · rw [if_neg hn, if_neg hn]
      · rw [if_neg hok, if_neg hok]
    · rw [if_neg h0, if_neg h0]
theorem follow_blind (s i : Int) (h : ∀ x ∈ followM l js s i p, kindOf l x.sec.toNat = 1 → posAt q x.sec.toNat = posAt p x.sec.toNat) : followM l js s i q = followM l js s i p := by
  unfold followM at h ⊢
  split
  · rename_i he
    rw [if_pos he] at h
    exact trip_blind _ _ _ _ h
  · rfl
theorem follow_in (s i : Int) (x : St) (h : x ∈ followM l js s i p) : ∃ k : Nat, x.sec = k ∧ k < l.length := by
  unfold followM at h
  split at h
  · exact trip_in _ _ _ _ x h
  · simp at h
theorem follow_short (s i : Int) : (followM l js s i p).length ≤ l.length + 1 := by
  unfold followM
  split
  · exact trip_short _ _ _ _
  · simp

/-- a step by a way -/
def okStep (l : List Sec) (p : List Int) (x : St) : Prop := isSecB l.length x.sec = true ∧ wayOk (kindOf l x.sec.toNat) x.inn (posAt p x.sec.toNat) = true ∧ wayOut (kindOf l x.sec.toNat) x.inn (posAt p x.sec.toNat) = x.out
/-- from y on to the end i of s -/
def leads (js : List Jo) (y : St) (s i : Int) : Prop := nextOk js y.sec y.out = true ∧ nextS js y.sec y.out = s ∧ nextE js y.sec y.out = i
/-- a way told from its end on -/
def bchain (l : List Sec) (js : List Jo) (p : List Int) : List St → Prop
  | [] => True
  | x :: r => okStep l p x ∧ (∀ y, r.head? = some y → leads js y x.sec x.inn) ∧ bchain l js p r
/-- in none of a list's sections -/
def apart (r : List St) (s : Int) : Prop := ∀ y ∈ r, y.sec ≠ s
def distinct : List St → Prop
  | [] => True
  | x :: r => apart r x.sec ∧ distinct r

/-- what a way by followF is, told from its end on, behind what was gone already -/
theorem trip_chain : ∀ (f : Nat) (seen : List Bool) (s i : Int) (acc : List St), seen.length = l.length → bchain l js p acc → distinct acc → (∀ y, acc.head? = some y → leads js y s i) →
    (∀ y ∈ acc, seenAt seen y.sec.toNat = true ∧ isSecB l.length y.sec = true) → (∀ y, (followF f l js p seen s i).getLast? = some y → 0 ≤ y.out) →
    bchain l js p ((followF f l js p seen s i).reverse ++ acc) ∧ distinct ((followF f l js p seen s i).reverse ++ acc)
  | 0, _, _, _, acc, _, h1, h2, _, _, _ => by simpa [followF] using ⟨h1, h2⟩
  | f + 1, seen, s, i, acc, hl, h1, h2, h3, h4, h5 => by
    rw [followF] at h5 ⊢
    by_cases h0 : (isSecB l.length s && !seenAt seen s.toNat) = true
    · rw [if_pos h0] at h5 ⊢
      rw [Bool.and_eq_true, Bool.not_eq_true'] at h0
      obtain ⟨hsec, hun⟩ := h0
      by_cases hok : wayOk (kindOf l s.toNat) i (posAt p s.toNat) = true
      · rw [if_pos hok] at h5 ⊢
        have hap : apart acc s := fun y hy e => by
          have := (h4 y hy).1
          rw [e, hun] at this
          cases this
        have hst : okStep l p ⟨s, i, wayOut (kindOf l s.toNat) i (posAt p s.toNat)⟩ := ⟨hsec, hok, rfl⟩
        generalize hO : wayOut (kindOf l s.toNat) i (posAt p s.toNat) = O at *
        have b1 : bchain l js p (⟨s, i, O⟩ :: acc) := ⟨hst, h3, h1⟩
        have d1 : distinct (⟨s, i, O⟩ :: acc) := ⟨hap, h2⟩
        by_cases hn : nextOk js s O = true
        · rw [if_pos hn] at h5 ⊢
          have ih := trip_chain f (seen.set s.toNat true) (nextS js s O) (nextE js s O) (⟨s, i, O⟩ :: acc) (by rw [List.length_set]; exact hl) b1 d1 (fun y hy => by
            have : (⟨s, i, O⟩ : St) = y := by simpa using hy
            subst this
            exact ⟨hn, rfl, rfl⟩) (fun y hy => by
            obtain ⟨k, rfl, hk⟩ := isSecB_true hsec
            rw [seenAt_set _ _ _ (by rw [hl, Int.toNat_natCast]; exact hk)]
            rcases List.mem_cons.1 hy with rfl | hy
            · exact ⟨by simp, hsec⟩
            · exact ⟨by rw [(h4 y hy).1, Bool.or_true], (h4 y hy).2⟩) (fun y hy => h5 y (by
            rw [List.getLast?_cons]
            rw [hy]
            rfl))
          rw [List.reverse_cons, List.append_assoc]
          exact ih
        · rw [if_neg hn]
          exact ⟨b1, d1⟩
      · rw [if_neg hok] at h5
        have := h5 ⟨s, i, -1⟩ rfl
        simp at this
    · rw [if_neg h0]
      exact ⟨h1, h2⟩

/-- a step the other way round -/
def turn (x : St) : St := ⟨x.sec, x.out, x.inn⟩
/-- The way back begins with the way, told from its end on, each step the other way round. -/
theorem trip_back (hj : jointsB l js = true) : ∀ (r : List St) (f : Nat) (seen : List Bool) (s i : Int), seen.length = l.length → bchain l js p r → distinct r → r.length ≤ f → (∀ y ∈ r, seenAt seen y.sec.toNat = false) →
    (∀ x, r.head? = some x → s = x.sec ∧ i = x.out) → ∃ rest, followF f l js p seen s i = r.map turn ++ rest
  | [], f, seen, s, i, _, _, _, _, _, _ => ⟨_, rfl⟩
  | x :: r, 0, seen, s, i, _, _, _, hf, _, _ => by simp at hf
  | x :: r, f + 1, seen, s, i, hl, hb, hd, hf, hs, hx => by
    obtain ⟨rfl, rfl⟩ := hx x rfl
    obtain ⟨⟨o1, o2, o3⟩, hld, hb2⟩ := hb
    obtain ⟨hap, hd2⟩ := hd
    have wb := way_back _ _ _ o2
    rw [o3] at wb
    obtain ⟨w1, w2, _, _, _, _, _⟩ := wb
    rw [followF, if_pos (by rw [o1, hs x (by simp)]; rfl), if_pos w1, w2]
    match r, hld, hb2, hap, hd2, hf, hs with
    | [], _, _, _, _, _, _ => exact ⟨_, rfl⟩
    | y :: r', hld, hb2, hap, hd2, hf, hs =>
      obtain ⟨n1, n2, n3⟩ := hld y rfl
      obtain ⟨m1, m2, m3, _, _⟩ := next_back hj n1
      rw [n2, n3] at m1 m2 m3
      rw [if_pos m1, m2, m3]
      obtain ⟨k, hk, hkl⟩ := isSecB_true o1
      obtain ⟨rest, hr⟩ := trip_back hj (y :: r') f (seen.set x.sec.toNat true) y.sec y.out (by rw [List.length_set]; exact hl) hb2 hd2 (by simp at hf ⊢; omega) (fun z hz => by
        rw [hk, Int.toNat_natCast, seenAt_set _ _ _ (by rw [hl]; exact hkl), hs z (by simp at hz ⊢; exact .inr hz)]
        have hne := hap z hz
        obtain ⟨⟨oy, _, _⟩, _, _⟩ := hb2
        have : ¬ k = z.sec.toNat := fun e => by
          have hz0 : 0 ≤ z.sec := by
            have hzs : isSecB l.length z.sec = true := by
              have : ∀ (u : List St), bchain l js p u → ∀ v ∈ u, isSecB l.length v.sec = true := by
                intro u
                induction u with
                | nil => intro _ v hv; simp at hv
                | cons a t ih =>
                  rintro ⟨⟨ha, _, _⟩, _, ht⟩ v hv
                  rcases List.mem_cons.1 hv with rfl | hv
                  · exact ha
                  · exact ih ht v hv
              exact this (y :: r') ⟨⟨oy, by assumption, by assumption⟩, by assumption, by assumption⟩ z hz
            obtain ⟨z', hz', _⟩ := isSecB_true hzs
            omega
          apply hne
          omega
        simp [this]) (fun z hz => by
        have : y = z := by simpa using hz
        subst this
        exact ⟨rfl, rfl⟩)
      exact ⟨rest, by rw [hr]; rfl⟩

/-- section n moved to k's place -/
def mv (k n : Nat) (y : St) : St := if y.sec = (n : Int) then ⟨(k : Int), y.inn, y.out⟩ else y
theorem mv_sec (k n : Nat) (y : St) : (mv k n y).sec = if y.sec = (n : Int) then (k : Int) else y.sec := by unfold mv; split <;> rfl
theorem distinct_short : ∀ (r : List St) (n : Nat), distinct r → (∀ x ∈ r, ∃ k : Nat, x.sec = k ∧ k < n) → r.length ≤ n
  | [], _, _, _ => Nat.zero_le _
  | x :: r, 0, _, h => by
    obtain ⟨k, _, hk⟩ := h x (by simp)
    omega
  | x :: r, n + 1, hd, h => by
    obtain ⟨k, hk, hkn⟩ := h x (by simp)
    -- the rest, with the greatest section moved to x's place
    have hmap : ∀ y ∈ r, ∃ m : Nat, y.sec = m ∧ m < n + 1 ∧ m ≠ k := fun y hy => by
      obtain ⟨m, hm, hmn⟩ := h y (by simp [hy])
      exact ⟨m, hm, hmn, fun e => hd.1 y hy (by rw [hm, hk, e])⟩
    have hg : ∀ (u : List St), distinct u → (∀ y ∈ u, ∃ m : Nat, y.sec = m ∧ m < n + 1 ∧ m ≠ k) → distinct (u.map (mv k n)) := by
      intro u
      induction u with
      | nil => intro _ _; trivial
      | cons a t ih =>
        rintro ⟨ha, ht⟩ hu
        refine ⟨fun y hy => ?_, ih ht fun y hy => hu y (by simp [hy])⟩
        obtain ⟨b, hb, rfl⟩ := List.mem_map.1 hy
        obtain ⟨m, hm, hmn, hmk⟩ := hu b (by simp [hb])
        obtain ⟨m', hm', hmn', hmk'⟩ := hu a (by simp)
        have := ha b hb
        show (mv k n b).sec ≠ (mv k n a).sec
        rw [mv_sec, mv_sec]
        split <;> split <;> omega
    have ih := distinct_short (r.map (mv k n)) n (hg r hd.2 hmap) (fun y hy => by
      obtain ⟨b, hb, rfl⟩ := List.mem_map.1 hy
      obtain ⟨m, hm, hmn, hmk⟩ := hmap b hb
      rw [mv_sec]
      split
      · exact ⟨k, rfl, by omega⟩
      · exact ⟨m, hm, by omega⟩)
    rw [List.length_map] at ih
    rw [List.length_cons]
    omega

/-- A train that turns about at the end of its way goes back through the same sections. -/
theorem follow_back (hj : jointsB l js = true) (s i : Int) (x : St) (hx : (followM l js s i p).getLast? = some x) (h0 : 0 ≤ x.out) :
    ∃ rest, followM l js x.sec x.out p = (followM l js s i p).reverse.map turn ++ rest := by
  unfold followM at hx ⊢
  by_cases he : isEndB l s i = true
  · rw [if_pos he] at hx ⊢
    have hc := trip_chain (l := l) (js := js) (p := p) (l.length + 1) (List.replicate l.length false) s i [] List.length_replicate trivial trivial (fun y hy => by cases hy) (fun y hy => by cases hy) (fun y hy => by
      rw [hx] at hy
      injection hy with hy
      rw [← hy]
      exact h0)
    rw [List.append_nil] at hc
    generalize hT : followF (l.length + 1) l js p (List.replicate l.length false) s i = T at *
    obtain ⟨hb, hd⟩ := hc
    have hhead : T.reverse.head? = some x := by rw [List.head?_reverse]; exact hx
    have hall : ∀ y ∈ T.reverse, ∃ k : Nat, y.sec = k ∧ k < l.length := fun y hy => trip_in (l := l) (js := js) (p := p) (l.length + 1) (List.replicate l.length false) s i y (by rw [hT]; simpa using hy)
    have hend : isEndB l x.sec x.out = true := by
      match hr : T.reverse, hhead, hb with
      | y :: r, hh, hb =>
        have : y = x := by simpa using hh
        subst this
        obtain ⟨⟨o1, o2, o3⟩, _, _⟩ := hb
        have wb := way_back _ _ _ o2
        rw [o3] at wb
        unfold isEndB
        rw [o1]
        simp
        exact ⟨wb.2.2.2.1, wb.2.2.2.2.1⟩
    rw [if_pos hend]
    exact trip_back hj T.reverse (l.length + 1) _ _ _ List.length_replicate hb hd (Nat.le_trans (distinct_short _ _ hd hall) (by omega)) (fun y _ => by
      unfold seenAt
      rw [List.getD_eq_getElem?_getD, List.getElem?_replicate]
      split <;> rfl) (fun z hz => by
      rw [hhead] at hz
      injection hz with hz
      subst hz
      exact ⟨rfl, rfl⟩)
  · rw [if_neg he] at hx
    cases hx
end
end Go.Proofs.Ytgommmaipifpaaa

/- Plain mathematics of a train's way: it lies in the plan, hangs on the points in it alone, and goes back the way it came. -/
import Derived.Test.YtkkohdmneognlaaGreatDoorMad
import Derived.BigQuiet
namespace Go.Proofs.YtkkohdmneognlaaGreatDoor

section
variable {l : List Sec} {js : List Jo} {p q : List Int}

theorem trip_in : ∀ (f : Nat) (seen : List Bool) (s i : Int) (x : St), x ∈ followF f l js p seen s i → ∃ k : Nat, x.sec = k ∧ k < l.length
  | 0, _, _, _, _, h => by simp [followF] at h
  | f + 1, seen, s, i, x, h => by
    rw [followF] at h
    split at h
    · rename_i h0
      rw [Bool.and_eq_true] at h0
      obtain ⟨k, rfl, hk⟩ := isSecB_true h0.1
      split at h
      · rcases List.mem_cons.1 h with rfl | h
        · exact ⟨k, rfl, hk⟩
        · split at h
          · exact trip_in f _ _ _ x h
          · simp at h
      · have : x = ⟨k, i, -1⟩ := by simpa using h
        subst this
        exact ⟨k, rfl, hk⟩
    · simp at h
theorem trip_short : ∀ (f : Nat) (seen : List Bool) (s i : Int), (followF f l js p seen s i).length ≤ f
  | 0, _, _, _ => by simp [followF]
  | f + 1, seen, s, i => by
    rw [followF]
    split
    · split
      · rw [List.length_cons]
        split
        · have := trip_short f (seen.set s.toNat true) (nextS js s (wayOut (kindOf l s.toNat) i (posAt p s.toNat))) (nextE js s (wayOut (kindOf l s.toNat) i (posAt p s.toNat)))
          omega
        · simp
      · simp
    · simp

/-- The way hangs on the positions of the points in it alone. -/
theorem trip_blind : ∀ (f : Nat) (seen : List Bool) (s i : Int), (∀ x ∈ followF f l js p seen s i, kindOf l x.sec.toNat = 1 → posAt q x.sec.toNat = posAt p x.sec.toNat) →
    followF f l js q seen s i = followF f l js p seen s i
  | 0, _, _, _, _ => rfl
  | f + 1, seen, s, i, h => by
    rw [followF] at h
    rw [followF, followF]
    by_cases h0 : (isSecB l.length s && !seenAt seen s.toNat) = true
    · rw [if_pos h0] at h
      rw [if_pos h0, if_pos h0]
      have hw : wayOk (kindOf l s.toNat) i (posAt q s.toNat) = wayOk (kindOf l s.toNat) i (posAt p s.toNat) ∧ wayOut (kindOf l s.toNat) i (posAt q s.toNat) = wayOut (kindOf l s.toNat) i (posAt p s.toNat) := by
        by_cases hk : kindOf l s.toNat = 1
        · have : posAt q s.toNat = posAt p s.toNat := by
            by_cases hok : wayOk (kindOf l s.toNat) i (posAt p s.toNat) = true
            · rw [if_pos hok] at h
              exact h ⟨s, i, _⟩ List.mem_cons_self hk
            · rw [if_neg hok] at h
              exact h ⟨s, i, -1⟩ (by simp) hk
          rw [this]
          exact ⟨rfl, rfl⟩
        · exact way_blind _ _ _ _ hk
      rw [hw.1, hw.2]
      by_cases hok : wayOk (kindOf l s.toNat) i (posAt p s.toNat) = true
      · rw [if_pos hok] at h
        rw [if_pos hok, if_pos hok]
        by_cases hn : nextOk js s (wayOut (kindOf l s.toNat) i (posAt p s.toNat)) = true
        · rw [if_pos hn] at h
          rw [if_pos hn, if_pos hn, trip_blind f _ _ _ (fun x hx => h x (by simp [hx]))]
        · rw [if_neg hn, if_neg hn]
      · rw [if_neg hok, if_neg hok]
    · rw [if_neg h0, if_neg h0]
theorem follow_blind (s i : Int) (h : ∀ x ∈ followM l js s i p, kindOf l x.sec.toNat = 1 → posAt q x.sec.toNat = posAt p x.sec.toNat) : followM l js s i q = followM l js s i p := by
  unfold followM at h ⊢
  split
  · rename_i he
    rw [if_pos he] at h
    exact trip_blind _ _ _ _ h
  · rfl
theorem follow_in (s i : Int) (x : St) (h : x ∈ followM l js s i p) : ∃ k : Nat, x.sec = k ∧ k < l.length := by
  unfold followM at h
  split at h
  · exact trip_in _ _ _ _ x h
  · simp at h
theorem follow_short (s i : Int) : (followM l js s i p).length ≤ l.length + 1 := by
  unfold followM
  split
  · exact trip_short _ _ _ _
  · simp

/-- a step by a way -/
def okStep (l : List Sec) (p : List Int) (x : St) : Prop := isSecB l.length x.sec = true ∧ wayOk (kindOf l x.sec.toNat) x.inn (posAt p x.sec.toNat) = true ∧ wayOut (kindOf l x.sec.toNat) x.inn (posAt p x.sec.toNat) = x.out
/-- from y on to the end i of s -/
def leads (js : List Jo) (y : St) (s i : Int) : Prop := nextOk js y.sec y.out = true ∧ nextS js y.sec y.out = s ∧ nextE js y.sec y.out = i
/-- a way told from its end on -/
def bchain (l : List Sec) (js : List Jo) (p : List Int) : List St → Prop
  | [] => True
  | x :: r => okStep l p x ∧ (∀ y, r.head? = some y → leads js y x.sec x.inn) ∧ bchain l js p r
/-- in none of a list's sections -/
def apart (r : List St) (s : Int) : Prop := ∀ y ∈ r, y.sec ≠ s
def distinct : List St → Prop
  | [] => True
  | x :: r => apart r x.sec ∧ distinct r

/-- what a way by followF is, told from its end on, behind what was gone already -/
theorem trip_chain : ∀ (f : Nat) (seen : List Bool) (s i : Int) (acc : List St), seen.length = l.length → bchain l js p acc → distinct acc → (∀ y, acc.head? = some y → leads js y s i) →
    (∀ y ∈ acc, seenAt seen y.sec.toNat = true ∧ isSecB l.length y.sec = true) → (∀ y, (followF f l js p seen s i).getLast? = some y → 0 ≤ y.out) →
    bchain l js p ((followF f l js p seen s i).reverse ++ acc) ∧ distinct ((followF f l js p seen s i).reverse ++ acc)
  | 0, _, _, _, acc, _, h1, h2, _, _, _ => by simpa [followF] using ⟨h1, h2⟩
  | f + 1, seen, s, i, acc, hl, h1, h2, h3, h4, h5 => by
    rw [followF] at h5 ⊢
    by_cases h0 : (isSecB l.length s && !seenAt seen s.toNat) = true
    · rw [if_pos h0] at h5 ⊢
      rw [Bool.and_eq_true, Bool.not_eq_true'] at h0
      obtain ⟨hsec, hun⟩ := h0
      by_cases hok : wayOk (kindOf l s.toNat) i (posAt p s.toNat) = true
      · rw [if_pos hok] at h5 ⊢
        have hap : apart acc s := fun y hy e => by
          have := (h4 y hy).1
          rw [e, hun] at this
          cases this
        have hst : okStep l p ⟨s, i, wayOut (kindOf l s.toNat) i (posAt p s.toNat)⟩ := ⟨hsec, hok, rfl⟩
        generalize hO : wayOut (kindOf l s.toNat) i (posAt p s.toNat) = O at *
        have b1 : bchain l js p (⟨s, i, O⟩ :: acc) := ⟨hst, h3, h1⟩
        have d1 : distinct (⟨s, i, O⟩ :: acc) := ⟨hap, h2⟩
        by_cases hn : nextOk js s O = true
        · rw [if_pos hn] at h5 ⊢
          have ih := trip_chain f (seen.set s.toNat true) (nextS js s O) (nextE js s O) (⟨s, i, O⟩ :: acc) (by rw [List.length_set]; exact hl) b1 d1 (fun y hy => by
            have : (⟨s, i, O⟩ : St) = y := by simpa using hy
            subst this
            exact ⟨hn, rfl, rfl⟩) (fun y hy => by
            obtain ⟨k, rfl, hk⟩ := isSecB_true hsec
            rw [seenAt_set _ _ _ (by rw [hl, Int.toNat_natCast]; exact hk)]
            rcases List.mem_cons.1 hy with rfl | hy
            · exact ⟨by simp, hsec⟩
            · exact ⟨by rw [(h4 y hy).1, Bool.or_true], (h4 y hy).2⟩) (fun y hy => h5 y (by
            rw [List.getLast?_cons]
            rw [hy]
            rfl))
          rw [List.reverse_cons, List.append_assoc]
          exact ih
        · rw [if_neg hn]
          exact ⟨b1, d1⟩
      · rw [if_neg hok] at h5
        have := h5 ⟨s, i, -1⟩ rfl
        simp at this
    · rw [if_neg h0]
      exact ⟨h1, h2⟩

/-- a step the other way round -/
def turn (x : St) : St := ⟨x.sec, x.out, x.inn⟩
/-- The way back begins with the way, told from its end on, each step the other way round. -/
theorem trip_back (hj : jointsB l js = true) : ∀ (r : List St) (f : Nat) (seen : List Bool) (s i : Int), seen.length = l.length → bchain l js p r → distinct r → r.length ≤ f → (∀ y ∈ r, seenAt seen y.sec.toNat = false) →
    (∀ x, r.head? = some x → s = x.sec ∧ i = x.out) → ∃ rest, followF f l js p seen s i = r.map turn ++ rest
  | [], f, seen, s, i, _, _, _, _, _, _ => ⟨_, rfl⟩
  | x :: r, 0, seen, s, i, _, _, _, hf, _, _ => by simp at hf
  | x :: r, f + 1, seen, s, i, hl, hb, hd, hf, hs, hx => by
    obtain ⟨rfl, rfl⟩ := hx x rfl
    obtain ⟨⟨o1, o2, o3⟩, hld, hb2⟩ := hb
    obtain ⟨hap, hd2⟩ := hd
    have wb := way_back _ _ _ o2
    rw [o3] at wb
    obtain ⟨w1, w2, _, _, _, _, _⟩ := wb
    rw [followF, if_pos (by rw [o1, hs x (by simp)]; rfl), if_pos w1, w2]
    match r, hld, hb2, hap, hd2, hf, hs with
    | [], _, _, _, _, _, _ => exact ⟨_, rfl⟩
    | y :: r', hld, hb2, hap, hd2, hf, hs =>
      obtain ⟨n1, n2, n3⟩ := hld y rfl
      obtain ⟨m1, m2, m3, _, _⟩ := next_back hj n1
      rw [n2, n3] at m1 m2 m3
      rw [if_pos m1, m2, m3]
      obtain ⟨k, hk, hkl⟩ := isSecB_true o1
      obtain ⟨rest, hr⟩ := trip_back hj (y :: r') f (seen.set x.sec.toNat true) y.sec y.out (by rw [List.length_set]; exact hl) hb2 hd2 (by simp at hf ⊢; omega) (fun z hz => by
        rw [hk, Int.toNat_natCast, seenAt_set _ _ _ (by rw [hl]; exact hkl), hs z (by simp at hz ⊢; exact .inr hz)]
        have hne := hap z hz
        obtain ⟨⟨oy, _, _⟩, _, _⟩ := hb2
        have : ¬ k = z.sec.toNat := fun e => by
          have hz0 : 0 ≤ z.sec := by
            have hzs : isSecB l.length z.sec = true := by
              have : ∀ (u : List St), bchain l js p u → ∀ v ∈ u, isSecB l.length v.sec = true := by
                intro u
                induction u with
                | nil => intro _ v hv; simp at hv
                | cons a t ih =>
                  rintro ⟨⟨ha, _, _⟩, _, ht⟩ v hv
                  rcases List.mem_cons.1 hv with rfl | hv
                  · exact ha
                  · exact ih ht v hv
              exact this (y :: r') ⟨⟨oy, by assumption, by assumption⟩, by assumption, by assumption⟩ z hz
            obtain ⟨z', hz', _⟩ := isSecB_true hzs
            omega
          apply hne
          omega
        simp [this]) (fun z hz => by
        have : y = z := by simpa using hz
        subst this
        exact ⟨rfl, rfl⟩)
      exact ⟨rest, by rw [hr]; rfl⟩

/-- section n moved to k's place -/
def mv (k n : Nat) (y : St) : St := if y.sec = (n : Int) then ⟨(k : Int), y.inn, y.out⟩ else y
theorem mv_sec (k n : Nat) (y : St) : (mv k n y).sec = if y.sec = (n : Int) then (k : Int) else y.sec := by unfold mv; split <;> rfl
theorem distinct_short : ∀ (r : List St) (n : Nat), distinct r → (∀ x ∈ r, ∃ k : Nat, x.sec = k ∧ k < n) → r.length ≤ n
  | [], _, _, _ => Nat.zero_le _
  | x :: r, 0, _, h => by
    obtain ⟨k, _, hk⟩ := h x (by simp)
    omega
  | x :: r, n + 1, hd, h => by
    obtain ⟨k, hk, hkn⟩ := h x (by simp)
    -- the rest, with the greatest section moved to x's place
    have hmap : ∀ y ∈ r, ∃ m : Nat, y.sec = m ∧ m < n + 1 ∧ m ≠ k := fun y hy => by
      obtain ⟨m, hm, hmn⟩ := h y (by simp [hy])
      exact ⟨m, hm, hmn, fun e => hd.1 y hy (by rw [hm, hk, e])⟩
    have hg : ∀ (u : List St), distinct u → (∀ y ∈ u, ∃ m : Nat, y.sec = m ∧ m < n + 1 ∧ m ≠ k) → distinct (u.map (mv k n)) := by
      intro u
      induction u with
      | nil => intro _ _; trivial
      | cons a t ih =>
        rintro ⟨ha, ht⟩ hu
        refine ⟨fun y hy => ?_, ih ht fun y hy => hu y (by simp [hy])⟩
        obtain ⟨b, hb, rfl⟩ := List.mem_map.1 hy
        obtain ⟨m, hm, hmn, hmk⟩ := hu b (by simp [hb])
        obtain ⟨m', hm', hmn', hmk'⟩ := hu a (by simp)
        have := ha b hb
        show (mv k n b).sec ≠ (mv k n a).sec
        rw [mv_sec, mv_sec]
        split <;> split <;> omega
    have ih := distinct_short (r.map (mv k n)) n (hg r hd.2 hmap) (fun y hy => by
      obtain ⟨b, hb, rfl⟩ := List.mem_map.1 hy
      obtain ⟨m, hm, hmn, hmk⟩ := hmap b hb
      rw [mv_sec]
      split
      · exact ⟨k, rfl, by omega⟩
      · exact ⟨m, hm, by omega⟩)
    rw [List.length_map] at ih
    rw [List.length_cons]
    omega

/-- A train that turns about at the end of its way goes back through the same sections. -/
theorem follow_back (hj : jointsB l js = true) (s i : Int) (x : St) (hx : (followM l js s i p).getLast? = some x) (h0 : 0 ≤ x.out) :
    ∃ rest, followM l js x.sec x.out p = (followM l js s i p).reverse.map turn ++ rest := by
  unfold followM at hx ⊢
  by_cases he : isEndB l s i = true
  · rw [if_pos he] at hx ⊢
    have hc := trip_chain (l := l) (js := js) (p := p) (l.length + 1) (List.replicate l.length false) s i [] List.length_replicate trivial trivial (fun y hy => by cases hy) (fun y hy => by cases hy) (fun y hy => by
      rw [hx] at hy
      injection hy with hy
      rw [← hy]
      exact h0)
    rw [List.append_nil] at hc
    generalize hT : followF (l.length + 1) l js p (List.replicate l.length false) s i = T at *
    obtain ⟨hb, hd⟩ := hc
    have hhead : T.reverse.head? = some x := by rw [List.head?_reverse]; exact hx
    have hall : ∀ y ∈ T.reverse, ∃ k : Nat, y.sec = k ∧ k < l.length := fun y hy => trip_in (l := l) (js := js) (p := p) (l.length + 1) (List.replicate l.length false) s i y (by rw [hT]; simpa using hy)
    have hend : isEndB l x.sec x.out = true := by
      match hr : T.reverse, hhead, hb with
      | y :: r, hh, hb =>
        have : y = x := by simpa using hh
        subst this
        obtain ⟨⟨o1, o2, o3⟩, _, _⟩ := hb
        have wb := way_back _ _ _ o2
        rw [o3] at wb
        unfold isEndB
        rw [o1]
        simp
        exact ⟨wb.2.2.2.1, wb.2.2.2.2.1⟩
    rw [if_pos hend]
    exact trip_back hj T.reverse (l.length + 1) _ _ _ List.length_replicate hb hd (Nat.le_trans (distinct_short _ _ hd hall) (by omega)) (fun y _ => by
      unfold seenAt
      rw [List.getD_eq_getElem?_getD, List.getElem?_replicate]
      split <;> rfl) (fun z hz => by
      rw [hhead] at hz
      injection hz with hz
      subst hz
      exact ⟨rfl, rfl⟩)
  · rw [if_neg he] at hx
    cases hx
end
end Go.Proofs.YtkkohdmneognlaaGreatDoor
/- Plain mathematics of stations: flanks, overlaps, what routes lock, which stations are right. Nothing here speaks of the program's text. -/
namespace Go.Proofs.YtkkohdmneognlaaGreatDoor

structure Nd where
  sec : Int
  pos : Int
deriving DecidableEq
structure Sg where
  sec : Int
  fin : Int
deriving DecidableEq
instance : Inhabited Nd := ⟨⟨0, 0⟩⟩
instance : Inhabited Sg := ⟨⟨0, 0⟩⟩
structure Rt where
  entry : Int
  exit : Int
  path : List St
  flank : List Nd
  over : List Int
  shunt : Bool
instance : Inhabited Rt := ⟨⟨0, 0, [], [], [], false⟩⟩
structure Tm where
  age : Int
  brake : Int
  hold : Int
  budget : Int
structure Cf where
  secs : List Sec
  jos : List Jo
  sigs : List Sg
  crs : List Int
  rts : List Rt
  tm : Tm

def sgAt (sg : List Sg) (e : Int) : Sg := sg.getD e.toNat default
def lineOf (l : List Sec) (s : Nat) : Int := (l.getD s default).line
theorem lineOf_at {l : List Sec} {s : Nat} (h : s < l.length) : lineOf l s = l[s].line := by
  unfold lineOf
  rw [List.getD_eq_getElem?_getD, List.getElem?_eq_getElem h]
  rfl
theorem sgAt_nat {sg : List Sg} {k : Nat} (h : k < sg.length) : sgAt sg k = sg[k] := by
  unfold sgAt
  rw [Int.toNat_natCast, List.getD_eq_getElem?_getD, List.getElem?_eq_getElem h]
  rfl
/-- a section's number of ends; none, if it is no section -/
def endsOf (l : List Sec) (s : Int) : Int := if isSecB l.length s = true then endsM (kindOf l s.toNat) else 0
/-- an entry signal's section; -1, if it is no signal -/
def apM (sg : List Sg) (e : Int) : Int := if isSecB sg.length e = true then (sgAt sg e).sec else -1

/-! ### What is barred -/
def bset (b : List Bool) (s : Int) : List Bool := if isSecB b.length s = true then b.set s.toNat true else b
def bsetL : List St → List Bool → List Bool
  | [], b => b
  | x :: r, b => bsetL r (bset b x.sec)
def barM (n : Nat) (ap : Int) (path : List St) : List Bool := bsetL path (bset (List.replicate n false) ap)
theorem bset_length (b : List Bool) (s : Int) : (bset b s).length = b.length := by
  unfold bset
  split
  · rw [List.length_set]
  · rfl
theorem bsetL_length : ∀ (r : List St) (b : List Bool), (bsetL r b).length = b.length
  | [], _ => rfl
  | x :: r, b => by rw [bsetL, bsetL_length r, bset_length]
theorem barM_length (n : Nat) (ap : Int) (path : List St) : (barM n ap path).length = n := by
  unfold barM
  rw [bsetL_length, bset_length, List.length_replicate]
theorem bset_at (b : List Bool) (s : Int) (k : Nat) (hk : k < b.length) : seenAt (bset b s) k = (decide (s = k) || seenAt b k) := by
  unfold bset
  split
  · rename_i h
    obtain ⟨j, rfl, hj⟩ := isSecB_true h
    rw [Int.toNat_natCast, seenAt_set _ _ _ hj]
    congr 1
    by_cases e : j = k <;> simp [e]
    omega
  · rename_i h
    have : s ≠ k := by
      rintro rfl
      exact h (isSecB_nat hk)
    simp [this]
theorem bsetL_at : ∀ (r : List St) (b : List Bool) (k : Nat), k < b.length → seenAt (bsetL r b) k = (r.any (fun x => decide (x.sec = k)) || seenAt b k)
  | [], _, _, _ => rfl
  | x :: r, b, k, hk => by
    rw [bsetL, bsetL_at r _ k (by rw [bset_length]; exact hk), bset_at b x.sec k hk, List.any_cons]
    cases r.any (fun x => decide (x.sec = k)) <;> cases decide (x.sec = (k : Int)) <;> cases seenAt b k <;> rfl
theorem barM_at (n : Nat) (ap : Int) (path : List St) (k : Nat) (hk : k < n) : seenAt (barM n ap path) k = (path.any (fun x => decide (x.sec = k)) || decide (ap = k)) := by
  unfold barM
  rw [bsetL_at _ _ _ (by rw [bset_length, List.length_replicate]; exact hk), bset_at _ _ _ (by rw [List.length_replicate]; exact hk)]
  have : seenAt (List.replicate n false) k = false := by
    unfold seenAt
    rw [List.getD_eq_getElem?_getD, List.getElem?_replicate]
    split <;> rfl
  rw [this, Bool.or_false]

/-! ### The flank -/
def guardOk (l : List Sec) (js : List Jo) (s e : Int) : Bool :=
  nextOk js s e && (isSecB l.length (nextS js s e) && (decide (kindOf l (nextS js s e).toNat = 1) && (decide (nextE js s e = 1) || decide (nextE js s e = 2))))
def guardN (js : List Jo) (s e : Int) : Nd := ⟨nextS js s e, 3 - nextE js s e⟩
def endsL (m : Int) : List Int := (List.range m.toNat).map fun (k : Nat) => (k : Int)
/-- one end of a step: barred and flank ahead of it, and behind it -/
def flankE (l : List Sec) (js : List Jo) (x : St) (e : Int) (q : List Bool × List Nd) : List Bool × List Nd :=
  if (decide (e = x.inn) || decide (e = x.out)) = true then q
  else if (guardOk l js x.sec e && !seenAt q.1 (nextS js x.sec e).toNat) = true then (q.1.set (nextS js x.sec e).toNat true, q.2 ++ [guardN js x.sec e]) else q
def flankI (l : List Sec) (js : List Jo) (x : St) : List Int → List Bool × List Nd → List Bool × List Nd
  | [], q => q
  | e :: r, q => flankI l js x r (flankE l js x e q)
def flankO (l : List Sec) (js : List Jo) : List St → List Bool × List Nd → List Bool × List Nd
  | [], q => q
  | x :: r, q => flankO l js r (flankI l js x (endsL (endsOf l x.sec)) q)
def flankM (l : List Sec) (js : List Jo) (ap : Int) (path : List St) : List Nd := (flankO l js path (barM l.length ap path, [])).2

/-! ### The overlap, the sections that a route locks -/
def overOk (l : List Sec) (js : List Jo) (sg : List Sg) (r : Rt) : Bool :=
  !r.shunt && (isSecB sg.length r.exit && (nextOk js (sgAt sg r.exit).sec (sgAt sg r.exit).fin && (isSecB l.length (nextS js (sgAt sg r.exit).sec (sgAt sg r.exit).fin) &&
    (decide (lineOf l (nextS js (sgAt sg r.exit).sec (sgAt sg r.exit).fin).toNat = 0) && !seenAt (barM l.length (apM sg r.entry) r.path) (nextS js (sgAt sg r.exit).sec (sgAt sg r.exit).fin).toNat))))
def overM (l : List Sec) (js : List Jo) (sg : List Sg) (r : Rt) : List Int := if overOk l js sg r = true then [nextS js (sgAt sg r.exit).sec (sgAt sg r.exit).fin] else []
def rawLocks (r : Rt) : List Int := r.over ++ (r.path.map St.sec ++ r.flank.map Nd.sec)

/-! ### Which stations are right -/
def sigsB (js : List Jo) : List Sg → Bool
  | [] => true
  | s :: r => nextOk js s.sec s.fin && (!r.contains s && sigsB js r)
def crsB (l : List Sec) : List Int → Bool
  | [] => true
  | s :: r => isSecB l.length s && (decide (lineOf l s.toNat = 0) && (!r.contains s && crsB l r))
def hangsB (l : List Sec) (js : List Jo) : Bool → Int → Int → List St → Bool
  | _, _, _, [] => true
  | ok, s, i, x :: r => ok && (decide (x.sec = s) && (decide (x.inn = i) && (posOk (kindOf l s.toNat) i x.out && hangsB l js (nextOk js s x.out) (nextS js s x.out) (nextE js s x.out) r)))
def onceB : List Bool → List St → Bool
  | _, [] => true
  | b, x :: r => !seenAt b x.sec.toNat && onceB (b.set x.sec.toNat true) r
def leaveS (x : St) : Sg := ⟨x.sec, x.out⟩
def clearB (sg : List Sg) : List St → Bool
  | [] => true
  | x :: r => !sg.contains (leaveS x) && clearB sg r
def endB (js : List Jo) (sg : List Sg) (exit : Int) (x : St) : Bool := if exit = -1 then !nextOk js x.sec x.out else decide (sgAt sg exit = leaveS x)
def linedB (l : List Sec) : List St → Bool
  | [] => false
  | x :: r => !decide (lineOf l x.sec.toNat = 0) || linedB l r
def lastSt (p : List St) : St := p.getD (p.length - 1) default
def routeB (l : List Sec) (js : List Jo) (sg : List Sg) (r : Rt) : Bool :=
  isSecB sg.length r.entry && ((decide (r.exit = -1) || isSecB sg.length r.exit) && (decide (1 ≤ r.path.length) && (decide (r.path.length ≤ 8) &&
    (hangsB l js (nextOk js (sgAt sg r.entry).sec (sgAt sg r.entry).fin) (nextS js (sgAt sg r.entry).sec (sgAt sg r.entry).fin) (nextE js (sgAt sg r.entry).sec (sgAt sg r.entry).fin) r.path &&
    (onceB ((List.replicate l.length false).set (sgAt sg r.entry).sec.toNat true) r.path && ((clearB sg (r.path.take (r.path.length - 1)) && endB js sg r.exit (lastSt r.path)) && !(r.shunt && linedB l r.path)))))))
/-- the first error of the routes: 0, if there is none -/
def routesE (l : List Sec) (js : List Jo) (sg : List Sg) : List Rt → Int
  | [] => 0
  | r :: rs => if routeB l js sg r = false then 9 else if r.flank ≠ flankM l js (apM sg r.entry) r.path then 10 else if r.over ≠ overM l js sg r then 11 else routesE l js sg rs
def timeB (t : Tm) : Bool :=
  (decide (1 ≤ t.age) && decide (t.age ≤ 8)) && ((decide (0 ≤ t.brake) && decide (t.brake ≤ 8)) && ((decide (t.age + t.brake + 1 ≤ t.hold) && decide (t.hold ≤ 40)) && (decide (1 ≤ t.budget) && decide (t.budget ≤ 1000000))))
def checkE (c : Cf) : Int :=
  if checkB c.secs c.jos = false then 6 else if (decide (c.sigs.length ≤ 12) && sigsB c.jos c.sigs) = false then 7 else if (decide (c.crs.length ≤ 4) && crsB c.secs c.crs) = false then 8
  else if ¬ c.rts.length ≤ 12 then 9 else if routesE c.secs c.jos c.sigs c.rts ≠ 0 then routesE c.secs c.jos c.sigs c.rts else if timeB c.tm = false then 12 else 0
end Go.Proofs.YtkkohdmneognlaaGreatDoor
/- The contract of the document's SameSteps, at equal lists; and structs of whole numbers compared. -/
namespace Go.Proofs.YtkkohdmneognlaaGreatDoor
open Go.RowKit

theorem cellsT_at {l : List St} {j : Nat} (h : j < l.length) : (cellsT l)[j * 3]? = some (.int .i64 l[j].sec) ∧ (cellsT l)[j * 3 + 1]? = some (.int .i64 l[j].inn) ∧ (cellsT l)[j * 3 + 2]? = some (.int .i64 l[j].out) := by
  induction l generalizing j with
  | nil => simp at h
  | cons v r ih =>
    have e : cellsT (v :: r) = [.int .i64 v.sec, .int .i64 v.inn, .int .i64 v.out] ++ cellsT r := rfl
    rcases j with _ | j
    · rw [e]; simp
    · have := ih (j := j) (by simpa using h)
      rw [e, show (j + 1) * 3 = 3 + j * 3 by omega, show 3 + j * 3 + 1 = 3 + (j * 3 + 1) by omega, show 3 + j * 3 + 2 = 3 + (j * 3 + 2) by omega]
      rw [List.getElem?_append_right (by simp), List.getElem?_append_right (by simp), List.getElem?_append_right (by simp)]
      simpa using this
theorem rd_st {w : World} {A : Option Addr} {l : List St} (h : Rd w A (cellsT l)) {j : Nat} (hj : j < l.length) : ∃ g o, A = some ⟨g, o, none⟩ ∧ w.cell? ⟨g, o + j * 3, none⟩ = some (.int .i64 l[j].sec) ∧ w.cell? ⟨g, o + j * 3 + 1, none⟩ = some (.int .i64 l[j].inn) ∧ w.cell? ⟨g, o + j * 3 + 2, none⟩ = some (.int .i64 l[j].out) := by
  obtain ⟨h0, h1, h2⟩ := cellsT_at hj
  obtain ⟨g, o, rfl, _, hc⟩ := h (by have := (List.getElem?_eq_some_iff.1 h0).1; omega)
  exact ⟨g, o, rfl, hc _ _ h0, hc _ _ h1, hc _ _ h2⟩

set_option maxHeartbeats 1000000 in
theorem samesteps_any {w : World} {A A' : Option Addr} {c c' : Nat} {l : List St} (h : Rd w A (cellsT l)) (h' : Rd w A' (cellsT l)) (hlen : l.length ≤ 140737488355328) :
    Calls Tryz.prog 26 #[.slice A l.length c, .slice A' l.length c'] w fun e w' => e = .returned (.bool true) ∧ Fr (fun _ => False) w w' := by
  go_enter Tryz.func26, Tryz.ntmps26
  go_wp2
  go_loopw [13] (fun i wr => ∃ k, k ≤ l.length ∧ i = .int .i64 (k : Nat) ∧ Fr (fun _ => False) w wr) (fun i _ => l.length - (intOf i).toNat)
  case atStart => exact ⟨0, Nat.zero_le _, rfl, Fr.refl _ _⟩
  case round =>
    obtain ⟨k, hk, rfl, g1⟩ := hrel
    by_cases hlt : k < l.length
    · obtain ⟨g, o, rfl, c0, c1, c2⟩ := rd_st (h.fr g1 fun _ _ => id) hlt
      obtain ⟨g', o', rfl, d0, d1, d2⟩ := rd_st (h'.fr g1 fun _ _ => id) hlt
      generalize l[k] = x at *
      obtain ⟨a, b, d⟩ := x
      simp only at *
      have i1 : (0 : Int) ≤ (k : Int) := by omega
      have i2 : (k : Int) < (l.length : Int) := by omega
      clear h h'
      go_wp2
      go_quiet (fail)
      go_wp2
      go_roundw
      case rel => exact ⟨k + 1, by omega, by go_num, g1.drewN nq⟩
      case measure => simp [intOf]; omega
    · go_wp2
      go_ret
      exact ⟨rfl, g1⟩
end Go.Proofs.YtkkohdmneognlaaGreatDoor
/- How configurations lie in memory. -/
namespace Go.Proofs.YtkkohdmneognlaaGreatDoor
open Go.RowKit

/-! ### Slices of small structs -/
def cellsN (l : List Nd) : List Value := l.flatMap fun s => [.int .i64 s.sec, .int .i64 s.pos]
def cellsG (l : List Sg) : List Value := l.flatMap fun s => [.int .i64 s.sec, .int .i64 s.fin]
theorem cellsN_length (l : List Nd) : (cellsN l).length = l.length * 2 := by
  induction l with
  | nil => rfl
  | cons v r ih =>
    have e : cellsN (v :: r) = [.int .i64 v.sec, .int .i64 v.pos] ++ cellsN r := rfl
    rw [e, List.length_append, ih, List.length_cons]
    simp
    omega
theorem cellsG_length (l : List Sg) : (cellsG l).length = l.length * 2 := by
  induction l with
  | nil => rfl
  | cons v r ih =>
    have e : cellsG (v :: r) = [.int .i64 v.sec, .int .i64 v.fin] ++ cellsG r := rfl
    rw [e, List.length_append, ih, List.length_cons]
    simp
    omega
theorem cellsN_snoc (l : List Nd) (v : Nd) : cellsN (l ++ [v]) = cellsN l ++ [.int .i64 v.sec, .int .i64 v.pos] := by
  unfold cellsN
  rw [List.flatMap_append]
  rfl
theorem cellsG_snoc (l : List Sg) (v : Sg) : cellsG (l ++ [v]) = cellsG l ++ [.int .i64 v.sec, .int .i64 v.fin] := by
  unfold cellsG
  rw [List.flatMap_append]
  rfl
theorem cellsN_at {l : List Nd} {j : Nat} (h : j < l.length) : (cellsN l)[j * 2]? = some (.int .i64 l[j].sec) ∧ (cellsN l)[j * 2 + 1]? = some (.int .i64 l[j].pos) := by
  induction l generalizing j with
  | nil => simp at h
  | cons v r ih =>
    have e : cellsN (v :: r) = [.int .i64 v.sec, .int .i64 v.pos] ++ cellsN r := rfl
    rcases j with _ | j
    · rw [e]; simp
    · have := ih (j := j) (by simpa using h)
      rw [e, show (j + 1) * 2 = 2 + j * 2 by omega, show 2 + j * 2 + 1 = 2 + (j * 2 + 1) by omega]
      rw [List.getElem?_append_right (by simp), List.getElem?_append_right (by simp)]
      simpa using this
theorem cellsG_at {l : List Sg} {j : Nat} (h : j < l.length) : (cellsG l)[j * 2]? = some (.int .i64 l[j].sec) ∧ (cellsG l)[j * 2 + 1]? = some (.int .i64 l[j].fin) := by
  induction l generalizing j with
  | nil => simp at h
  | cons v r ih =>
    have e : cellsG (v :: r) = [.int .i64 v.sec, .int .i64 v.fin] ++ cellsG r := rfl
    rcases j with _ | j
    · rw [e]; simp
    · have := ih (j := j) (by simpa using h)
      rw [e, show (j + 1) * 2 = 2 + j * 2 by omega, show 2 + j * 2 + 1 = 2 + (j * 2 + 1) by omega]
      rw [List.getElem?_append_right (by simp), List.getElem?_append_right (by simp)]
      simpa using this
theorem rd_nd {w : World} {A : Option Addr} {l : List Nd} (h : Rd w A (cellsN l)) {j : Nat} (hj : j < l.length) : ∃ g o, A = some ⟨g, o, none⟩ ∧ w.cell? ⟨g, o + j * 2, none⟩ = some (.int .i64 l[j].sec) ∧ w.cell? ⟨g, o + j * 2 + 1, none⟩ = some (.int .i64 l[j].pos) := by
  obtain ⟨h0, h1⟩ := cellsN_at hj
  obtain ⟨g, o, rfl, _, hc⟩ := h (by have := (List.getElem?_eq_some_iff.1 h0).1; omega)
  exact ⟨g, o, rfl, hc _ _ h0, hc _ _ h1⟩
theorem rd_sg {w : World} {A : Option Addr} {l : List Sg} (h : Rd w A (cellsG l)) {j : Nat} (hj : j < l.length) : ∃ g o, A = some ⟨g, o, none⟩ ∧ w.cell? ⟨g, o + j * 2, none⟩ = some (.int .i64 l[j].sec) ∧ w.cell? ⟨g, o + j * 2 + 1, none⟩ = some (.int .i64 l[j].fin) := by
  obtain ⟨h0, h1⟩ := cellsG_at hj
  obtain ⟨g, o, rfl, _, hc⟩ := h (by have := (List.getElem?_eq_some_iff.1 h0).1; omega)
  exact ⟨g, o, rfl, hc _ _ h0, hc _ _ h1⟩
theorem rd_int {w : World} {A : Option Addr} {l : List Int} (h : Rd w A (l.map (Value.int .i64))) {j : Nat} (hj : j < l.length) : ∃ g o, A = some ⟨g, o, none⟩ ∧ w.cell? ⟨g, o + j, none⟩ = some (.int .i64 l[j]) := by
  have h0 : (l.map (Value.int .i64))[j]? = some (.int .i64 l[j]) := by rw [List.getElem?_map, List.getElem?_eq_getElem hj]; rfl
  obtain ⟨g, o, rfl, _, hc⟩ := h (by have := (List.getElem?_eq_some_iff.1 h0).1; omega)
  exact ⟨g, o, rfl, hc _ _ h0⟩

/-! ### Routes -/
structure Ro where
  entry : Int
  exit : Int
  a1 : Option Addr
  c1 : Nat
  path : List St
  a2 : Option Addr
  c2 : Nat
  flank : List Nd
  a3 : Option Addr
  c3 : Nat
  over : List Int
  shunt : Bool
instance : Inhabited Ro := ⟨⟨0, 0, none, 0, [], none, 0, [], none, 0, [], false⟩⟩
def Ro.rt (r : Ro) : Rt := ⟨r.entry, r.exit, r.path, r.flank, r.over, r.shunt⟩
def Ro.cells (r : Ro) : List Value := [.int .i64 r.entry, .int .i64 r.exit, .slice r.a1 r.path.length r.c1, .slice r.a2 r.flank.length r.c2, .slice r.a3 r.over.length r.c3, .bool r.shunt]
def Ro.val (r : Ro) : Value := .agg #[.int .i64 r.entry, .int .i64 r.exit, .slice r.a1 r.path.length r.c1, .slice r.a2 r.flank.length r.c2, .slice r.a3 r.over.length r.c3, .bool r.shunt]
def cellsR (l : List Ro) : List Value := l.flatMap Ro.cells
structure Ro.Ok (w : World) (r : Ro) : Prop where
  path : Rd w r.a1 (cellsT r.path)
  flank : Rd w r.a2 (cellsN r.flank)
  over : Rd w r.a3 (r.over.map (Value.int .i64))
  l1 : r.path.length ≤ r.c1
  l2 : r.flank.length ≤ r.c2
  l3 : r.over.length ≤ r.c3
  b1 : r.path.length * 24 ≤ 140737488351232
  b2 : r.flank.length * 16 ≤ 140737488351232
  b3 : r.over.length * 8 ≤ 140737488351232
  k1 : r.c1 ≤ 9223372036854775807
  k2 : r.c2 ≤ 9223372036854775807
  k3 : r.c3 ≤ 9223372036854775807
theorem Ro.Ok.fr {w w1 : World} {r : Ro} (h : r.Ok w) (f : Fr (fun _ => False) w w1) : r.Ok w1 :=
  { h with path := h.path.fr f fun _ _ => id, flank := h.flank.fr f fun _ _ => id, over := h.over.fr f fun _ _ => id }
theorem Ro.Ok.drewN {w : World} {r : Ro} (h : r.Ok w) (n : Nat) : r.Ok (w.drewN n) := h.fr ((Fr.refl _ _).drewN n)
theorem cellsR_length (l : List Ro) : (cellsR l).length = l.length * 6 := by
  induction l with
  | nil => rfl
  | cons v r ih =>
    have e : cellsR (v :: r) = v.cells ++ cellsR r := rfl
    rw [e, List.length_append, ih, List.length_cons]
    simp [Ro.cells]
    omega
theorem cellsR_at {l : List Ro} {j : Nat} (h : j < l.length) (k : Nat) (u : Value) (hu : l[j].cells[k]? = some u) : (cellsR l)[j * 6 + k]? = some u := by
  induction l generalizing j with
  | nil => simp at h
  | cons v r ih =>
    have e : cellsR (v :: r) = v.cells ++ cellsR r := rfl
    have hl : v.cells.length = 6 := rfl
    rcases j with _ | j
    · have hk : k < v.cells.length := (List.getElem?_eq_some_iff.1 hu).1
      rw [e, Nat.zero_mul, Nat.zero_add, List.getElem?_append_left hk]
      exact hu
    · have := ih (j := j) (by simpa using h) (by simpa using hu)
      rw [e, List.getElem?_append_right (by rw [hl]; omega), hl, show (j + 1) * 6 + k - 6 = j * 6 + k by omega]
      exact this
theorem rd_ro {w : World} {A : Option Addr} {l : List Ro} (h : Rd w A (cellsR l)) {j : Nat} (hj : j < l.length) : ∃ g o, A = some ⟨g, o, none⟩ ∧
    w.cell? ⟨g, o + j * 6, none⟩ = some (.int .i64 l[j].entry) ∧ w.cell? ⟨g, o + j * 6 + 1, none⟩ = some (.int .i64 l[j].exit) ∧
    w.cell? ⟨g, o + j * 6 + 2, none⟩ = some (.slice l[j].a1 l[j].path.length l[j].c1) ∧ w.cell? ⟨g, o + j * 6 + 3, none⟩ = some (.slice l[j].a2 l[j].flank.length l[j].c2) ∧
    w.cell? ⟨g, o + j * 6 + 4, none⟩ = some (.slice l[j].a3 l[j].over.length l[j].c3) ∧ w.cell? ⟨g, o + j * 6 + 5, none⟩ = some (.bool l[j].shunt) := by
  have h0 := cellsR_at hj 0 _ rfl
  obtain ⟨g, o, rfl, _, hc⟩ := h (by have := (List.getElem?_eq_some_iff.1 h0).1; omega)
  refine ⟨g, o, rfl, ?_, ?_, ?_, ?_, ?_, ?_⟩
  · exact hc _ _ h0
  · rw [Nat.add_assoc]; exact hc _ _ (cellsR_at hj 1 _ rfl)
  · rw [Nat.add_assoc]; exact hc _ _ (cellsR_at hj 2 _ rfl)
  · rw [Nat.add_assoc]; exact hc _ _ (cellsR_at hj 3 _ rfl)
  · rw [Nat.add_assoc]; exact hc _ _ (cellsR_at hj 4 _ rfl)
  · rw [Nat.add_assoc]; exact hc _ _ (cellsR_at hj 5 _ rfl)

/-! ### Configurations -/
structure Cm where
  A1 : Option Addr
  c1 : Nat
  l : List Sec
  A2 : Option Addr
  c2 : Nat
  js : List Jo
  A3 : Option Addr
  c3 : Nat
  sg : List Sg
  A4 : Option Addr
  c4 : Nat
  cr : List Int
  A5 : Option Addr
  c5 : Nat
  rs : List Ro
  tm : Tm
def Cm.cf (C : Cm) : Cf := ⟨C.l, C.js, C.sg, C.cr, C.rs.map Ro.rt, C.tm⟩
def Cm.arr (C : Cm) : Array Value := #[.slice C.A1 C.l.length C.c1, .slice C.A2 C.js.length C.c2, .slice C.A3 C.sg.length C.c3, .slice C.A4 C.cr.length C.c4, .slice C.A5 C.rs.length C.c5,
  .int .i64 C.tm.age, .int .i64 C.tm.brake, .int .i64 C.tm.hold, .int .i64 C.tm.budget]
def Cm.val (C : Cm) : Value := .agg C.arr
structure Cm.Ok (w : World) (C : Cm) : Prop where
  secs : Rd w C.A1 (cellsS C.l)
  jos : Rd w C.A2 (cellsJ C.js)
  sigs : Rd w C.A3 (cellsG C.sg)
  crs : Rd w C.A4 (C.cr.map (Value.int .i64))
  rts : Rd w C.A5 (cellsR C.rs)
  each : ∀ r ∈ C.rs, r.Ok w
  l1 : C.l.length ≤ C.c1
  l2 : C.js.length ≤ C.c2
  l3 : C.sg.length ≤ C.c3
  l4 : C.cr.length ≤ C.c4
  l5 : C.rs.length ≤ C.c5
  b1 : C.l.length * 24 ≤ 140737488351232
  b2 : C.js.length * 32 ≤ 140737488351232
  b3 : C.sg.length * 16 ≤ 140737488351232
  b4 : C.cr.length * 8 ≤ 140737488351232
  b5 : C.rs.length * 96 ≤ 140737488351232
  k1 : C.c1 ≤ 9223372036854775807
  k2 : C.c2 ≤ 9223372036854775807
  k3 : C.c3 ≤ 9223372036854775807
  k4 : C.c4 ≤ 9223372036854775807
  k5 : C.c5 ≤ 9223372036854775807
theorem Cm.Ok.fr {w w1 : World} {C : Cm} (h : C.Ok w) (f : Fr (fun _ => False) w w1) : C.Ok w1 :=
  { h with secs := h.secs.fr f fun _ _ => id, jos := h.jos.fr f fun _ _ => id, sigs := h.sigs.fr f fun _ _ => id, crs := h.crs.fr f fun _ _ => id, rts := h.rts.fr f fun _ _ => id, each := fun r hr => (h.each r hr).fr f }
end Go.Proofs.YtkkohdmneognlaaGreatDoor
/- The contracts of the small functions: is there such a thing; the approach; what lies beyond a signal; a section's ends; the Point that guards an end. -/
namespace Go.Proofs.YtkkohdmneognlaaGreatDoor
open Go.RowKit

theorem hasr_any {A : Option Addr} {c n : Nat} (s : Int) (w : World) : Calls Tryz.prog 47 #[.slice A n c, .int .i64 s] w fun e w' => e = .returned (.bool (isSecB n s)) ∧ w = w' := by
  unfold isSecB
  by_cases h1 : 0 ≤ s
  · rw [show decide (0 ≤ s) = true by simp [h1], Bool.true_and]
    by_cases h2 : s < n
    · rw [show decide (s < n) = true by simp [h2]]
      go_enter Tryz.func47, Tryz.ntmps47
      go_wp2
      go_ret
      exact ⟨rfl, rfl⟩
    · rw [show decide (s < n) = false by simp [h2]]
      have h3 : decide (s < n) = false := by simp [h2]
      clear h2
      go_enter Tryz.func47, Tryz.ntmps47
      go_wp2
      go_ret
      exact ⟨rfl, rfl⟩
  · rw [show decide (0 ≤ s) = false by simp [h1], Bool.false_and]
    have h3 : s < 0 := by omega
    clear h1
    go_enter Tryz.func47, Tryz.ntmps47
    go_wp2
    go_ret
    exact ⟨rfl, rfl⟩

theorem hass_any {A : Option Addr} {c n : Nat} (s : Int) (w : World) : Calls Tryz.prog 64 #[.slice A n c, .int .i64 s] w fun e w' => e = .returned (.bool (isSecB n s)) ∧ w = w' := by
  unfold isSecB
  by_cases h1 : 0 ≤ s
  · rw [show decide (0 ≤ s) = true by simp [h1], Bool.true_and]
    by_cases h2 : s < n
    · rw [show decide (s < n) = true by simp [h2]]
      go_enter Tryz.func64, Tryz.ntmps64
      go_wp2
      go_ret
      exact ⟨rfl, rfl⟩
    · rw [show decide (s < n) = false by simp [h2]]
      have h3 : decide (s < n) = false := by simp [h2]
      clear h2
      go_enter Tryz.func64, Tryz.ntmps64
      go_wp2
      go_ret
      exact ⟨rfl, rfl⟩
  · rw [show decide (0 ≤ s) = false by simp [h1], Bool.false_and]
    have h3 : s < 0 := by omega
    clear h1
    go_enter Tryz.func64, Tryz.ntmps64
    go_wp2
    go_ret
    exact ⟨rfl, rfl⟩

theorem hasg_any {A : Option Addr} {c n : Nat} (s : Int) (w : World) : Calls Tryz.prog 97 #[.slice A n c, .int .i64 s] w fun e w' => e = .returned (.bool (isSecB n s)) ∧ w = w' := by
  unfold isSecB
  by_cases h1 : 0 ≤ s
  · rw [show decide (0 ≤ s) = true by simp [h1], Bool.true_and]
    by_cases h2 : s < n
    · rw [show decide (s < n) = true by simp [h2]]
      go_enter Tryz.func97, Tryz.ntmps97
      go_wp2
      go_ret
      exact ⟨rfl, rfl⟩
    · rw [show decide (s < n) = false by simp [h2]]
      have h3 : decide (s < n) = false := by simp [h2]
      clear h2
      go_enter Tryz.func97, Tryz.ntmps97
      go_wp2
      go_ret
      exact ⟨rfl, rfl⟩
  · rw [show decide (0 ≤ s) = false by simp [h1], Bool.false_and]
    have h3 : s < 0 := by omega
    clear h1
    go_enter Tryz.func97, Tryz.ntmps97
    go_wp2
    go_ret
    exact ⟨rfl, rfl⟩

theorem hasb_any {A : Option Addr} {c n : Nat} (s : Int) (w : World) : Calls Tryz.prog 103 #[.slice A n c, .int .i64 s] w fun e w' => e = .returned (.bool (isSecB n s)) ∧ w = w' := by
  unfold isSecB
  by_cases h1 : 0 ≤ s
  · rw [show decide (0 ≤ s) = true by simp [h1], Bool.true_and]
    by_cases h2 : s < n
    · rw [show decide (s < n) = true by simp [h2]]
      go_enter Tryz.func103, Tryz.ntmps103
      go_wp2
      go_ret
      exact ⟨rfl, rfl⟩
    · rw [show decide (s < n) = false by simp [h2]]
      have h3 : decide (s < n) = false := by simp [h2]
      clear h2
      go_enter Tryz.func103, Tryz.ntmps103
      go_wp2
      go_ret
      exact ⟨rfl, rfl⟩
  · rw [show decide (0 ≤ s) = false by simp [h1], Bool.false_and]
    have h3 : s < 0 := by omega
    clear h1
    go_enter Tryz.func103, Tryz.ntmps103
    go_wp2
    go_ret
    exact ⟨rfl, rfl⟩

theorem approach_any (C : Cm) (r : Ro) (w : World) (h : C.Ok w) :
    Calls Tryz.prog 48 #[C.val, r.val] w fun e w' => e = .returned (.int .i64 (apM C.sg r.entry)) ∧ Fr (fun _ => False) w w' := by
  have K := fun W => hasg_any (A := C.A3) (c := C.c3) (n := C.sg.length) r.entry W
  unfold apM Cm.val Cm.arr Ro.val
  cases hs : isSecB C.sg.length r.entry
  · rw [hs] at K
    rw [if_neg (by decide)]
    clear hs
    go_enter Tryz.func48, Tryz.ntmps48
    go_wp2_with fail
    refine (K _).mono ?_
    rintro e w1 ⟨rfl, rfl⟩
    go_wp2_with fail
    go_ret
    exact ⟨rfl, ((Fr.refl _ _).alloc _).alloc _⟩
  · rw [hs] at K
    obtain ⟨k, hk, hlt⟩ := isSecB_true hs
    rw [if_pos rfl, hk, sgAt_nat hlt]
    rw [hk] at K
    obtain ⟨g, o, hA, q0, _⟩ := rd_sg h.sigs hlt
    rw [hA] at K ⊢
    have hg := World.block_lt_of_cell? _ ⟨g, o + k * 2, none⟩ q0
    generalize C.sg[k].sec = v at *
    clear hs hA
    go_enter Tryz.func48, Tryz.ntmps48
    go_wp2_with fail
    refine (K _).mono ?_
    rintro e w1 ⟨rfl, rfl⟩
    go_wp2_with fail
    go_ret
    exact ⟨rfl, ((Fr.refl _ _).alloc _).alloc _⟩

end Go.Proofs.YtkkohdmneognlaaGreatDoor
/- The contracts of what asks the track: what lies beyond a signal; does an end stand in a joint; a section's ends; the Point that guards an end; Approach. -/
namespace Go.Proofs.YtkkohdmneognlaaGreatDoor
open Go.RowKit

def beyOk (sg : List Sg) (js : List Jo) (k : Int) : Bool := isSecB sg.length k && nextOk js (sgAt sg k).sec (sgAt sg k).fin
def beyS (sg : List Sg) (js : List Jo) (k : Int) : Int := if isSecB sg.length k = true then nextS js (sgAt sg k).sec (sgAt sg k).fin else 0
def beyE (sg : List Sg) (js : List Jo) (k : Int) : Int := if isSecB sg.length k = true then nextE js (sgAt sg k).sec (sgAt sg k).fin else 0

theorem beyond_any (C : Cm) (k : Int) (w : World) (h : C.Ok w) :
    Calls Tryz.prog 63 #[C.val, .int .i64 k] w fun e w' => e = .returned (.tuple #[.int .i64 (beyS C.sg C.js k), .int .i64 (beyE C.sg C.js k), .bool (beyOk C.sg C.js k)]) ∧ Fr (fun _ => False) w w' := by
  have K := fun W => hasg_any (A := C.A3) (c := C.c3) (n := C.sg.length) k W
  unfold beyOk beyS beyE Cm.val Cm.arr
  cases hs : isSecB C.sg.length k
  · rw [hs] at K
    rw [if_neg (by decide), if_neg (by decide), Bool.false_and]
    clear hs
    go_enter Tryz.func63, Tryz.ntmps63
    go_wp2_with fail
    refine (K _).mono ?_
    rintro e w1 ⟨rfl, rfl⟩
    go_wp2_with fail
    go_ret3
    exact ⟨rfl, (Fr.refl _ _).alloc _⟩
  · rw [hs] at K
    obtain ⟨j, rfl, hlt⟩ := isSecB_true hs
    rw [if_pos rfl, if_pos rfl, sgAt_nat hlt, Bool.true_and]
    have b2 := h.b2
    have KN := fun s e w1 (f : Fr (fun _ => False) w w1) => next_any (c := C.c2) s e w1 (h.jos.fr f fun _ _ => id) (by omega)
    obtain ⟨g, o, hA, q0, q1⟩ := rd_sg h.sigs hlt
    rw [hA] at K ⊢
    have hg := World.block_lt_of_cell? _ ⟨g, o + j * 2, none⟩ q0
    have KM := KN C.sg[j].sec C.sg[j].fin
    generalize C.sg[j] = v at *
    generalize hS : nextS C.js v.sec v.fin = S at *
    generalize hE : nextE C.js v.sec v.fin = E at *
    generalize hO : nextOk C.js v.sec v.fin = O at *
    clear hs hA hS hE hO KN b2 h
    go_enter Tryz.func63, Tryz.ntmps63
    go_wp2_with fail
    refine (K _).mono ?_
    rintro e w1 ⟨rfl, rfl⟩
    go_wp2_with fail
    refine (KM _ (((Fr.refl _ _).alloc _).alloc _)).mono ?_
    rintro e w1 ⟨rfl, f1⟩
    go_wp2_with fail
    go_ret3
    exact ⟨rfl, fr_nil (((Fr.refl _ _).alloc _).alloc _) f1⟩

theorem joined_any (C : Cm) (s e : Int) (w : World) (h : C.Ok w) :
    Calls Tryz.prog 87 #[C.val, .int .i64 s, .int .i64 e] w fun x w' => x = .returned (.bool (nextOk C.js s e)) ∧ Fr (fun _ => False) w w' := by
  have b2 := h.b2
  have KN := fun w1 (f : Fr (fun _ => False) w w1) => next_any (c := C.c2) s e w1 (h.jos.fr f fun _ _ => id) (by omega)
  unfold Cm.val Cm.arr
  generalize hS : nextS C.js s e = S at *
  generalize hE : nextE C.js s e = E at *
  generalize hO : nextOk C.js s e = O at *
  clear hS hE hO b2
  go_enter Tryz.func87, Tryz.ntmps87
  go_wp2_with fail
  refine (KN _ ((Fr.refl _ _).alloc _)).mono ?_
  rintro e w1 ⟨rfl, f1⟩
  go_wp2_with fail
  go_ret
  exact ⟨rfl, fr_nil ((Fr.refl _ _).alloc _) f1⟩

theorem ends_of_any (C : Cm) (s : Int) (w : World) (h : C.Ok w) :
    Calls Tryz.prog 58 #[C.val, .int .i64 s] w fun e w' => e = .returned (.int .i64 (endsOf C.l s)) ∧ Fr (fun _ => False) w w' := by
  have K := fun W => hass_any (A := C.A1) (c := C.c1) (n := C.l.length) s W
  unfold endsOf Cm.val Cm.arr
  cases hs : isSecB C.l.length s
  · rw [hs] at K
    rw [if_neg (by decide)]
    clear hs
    go_enter Tryz.func58, Tryz.ntmps58
    go_wp2_with fail
    refine (K _).mono ?_
    rintro e w1 ⟨rfl, rfl⟩
    go_wp2_with fail
    go_ret
    exact ⟨rfl, (Fr.refl _ _).alloc _⟩
  · rw [hs] at K
    obtain ⟨k, rfl, hlt⟩ := isSecB_true hs
    rw [if_pos rfl, Int.toNat_natCast, kindOf_at hlt]
    obtain ⟨g, o, hA, q0, _, _⟩ := rd_sec h.secs hlt
    rw [hA] at K ⊢
    have hg := World.block_lt_of_cell? _ ⟨g, o + k * 3, none⟩ q0
    have KE := fun w => ends_any C.l[k].kind w
    generalize C.l[k].kind = v at *
    generalize endsM v = E at *
    clear hs hA
    go_enter Tryz.func58, Tryz.ntmps58
    go_wp2_with fail
    refine (K _).mono ?_
    rintro e w1 ⟨rfl, rfl⟩
    go_wp2_with fail
    refine (KE _).mono ?_
    rintro e w1 ⟨rfl, rfl⟩
    go_wp2_with fail
    go_ret
    exact ⟨rfl, (Fr.refl _ _).alloc _⟩

theorem leaves_any (x : St) (w : World) : Calls Tryz.prog 148 #[.agg #[.int .i64 x.sec, .int .i64 x.inn, .int .i64 x.out]] w fun e w' => e = .returned (.agg #[.int .i64 x.sec, .int .i64 x.out]) ∧ Fr (fun _ => False) w w' := by
  go_enter Tryz.func148, Tryz.ntmps148
  go_wp2_with fail
  exact bodyPost_ret (v := .agg #[.int .i64 x.sec, .int .i64 x.out]) (by simp [results, Tryz.results148, go_sem]) rfl ⟨rfl, ((Fr.refl _ _).alloc _).alloc _⟩
theorem within_any (n a b : Int) (w : World) : Calls Tryz.prog 93 #[.int .i64 n, .int .i64 a, .int .i64 b] w fun e w' => e = .returned (.bool (decide (a ≤ n) && decide (n ≤ b))) ∧ w = w' := by
  by_cases h1 : a ≤ n
  · by_cases h2 : n ≤ b
    · have e1 : decide (a ≤ n) = true := by simp [h1]
      have e2 : decide (n ≤ b) = true := by simp [h2]
      rw [e1, e2]
      go_enter Tryz.func93, Tryz.ntmps93
      go_wp2
      go_ret
      exact ⟨rfl, rfl⟩
    · have e1 : decide (a ≤ n) = true := by simp [h1]
      have e2 : decide (n ≤ b) = false := by simp [h2]
      rw [e1, e2]
      go_enter Tryz.func93, Tryz.ntmps93
      go_wp2
      go_ret
      exact ⟨rfl, rfl⟩
  · have e1 : decide (a ≤ n) = false := by simp [h1]
    rw [e1, Bool.false_and]
    go_enter Tryz.func93, Tryz.ntmps93
    go_wp2
    go_ret
    exact ⟨rfl, rfl⟩
theorem digit_any (b : Bool) (w : World) : Calls Tryz.prog 67 #[.bool b] w fun e w' => e = .returned (.int .i64 (if b = true then 1 else 0)) ∧ w = w' := by
  cases b
  · go_enter Tryz.func67, Tryz.ntmps67
    go_wp2
    go_ret
    exact ⟨rfl, rfl⟩
  · go_enter Tryz.func67, Tryz.ntmps67
    go_wp2
    go_ret
    exact ⟨rfl, rfl⟩
end Go.Proofs.YtkkohdmneognlaaGreatDoor

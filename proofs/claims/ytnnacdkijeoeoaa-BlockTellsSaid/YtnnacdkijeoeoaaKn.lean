/- Contracts and plain mathematics of earlier stages: Shunt, Cshort, Cwp, Rpm. -/
import Derived.Test.YtnnacdkijeoeoaaKc
import Derived.Test.YtnnacdkijeoeoaaKh
import Derived.Test.YtnnacdkijeoeoaaKg
import Derived.Test.YtnnacdkijeoeoaaKl
namespace Go.Proofs.Ytnnacdkijeoeoaa
open Go.RowKit

/-- a route's first error -/
def errR (l : List Sec) (js : List Jo) (sg : List Sg) (r : Rt) : Int := if routeB l js sg r = false then 9 else if r.flank ≠ flankM l js (apM sg r.entry) r.path then 10 else if r.over ≠ overM l js sg r then 11 else 0
theorem routesE_cons (l : List Sec) (js : List Jo) (sg : List Sg) (r : Rt) (rs : List Rt) : routesE l js sg (r :: rs) = if errR l js sg r ≠ 0 then errR l js sg r else routesE l js sg rs := by
  rw [routesE]
  unfold errR
  split
  · simp
  · split
    · simp
    · split
      · simp
      · simp
theorem routesE_zero {l : List Sec} {js : List Jo} {sg : List Sg} : ∀ {rs : List Rt}, routesE l js sg rs = 0 → ∀ r ∈ rs, errR l js sg r = 0
  | [], _, _, h => by cases h
  | x :: rs, h0, r, hr => by
    rw [routesE_cons] at h0
    by_cases hx : errR l js sg x = 0
    · rw [if_neg (by simpa using hx)] at h0
      rcases List.mem_cons.1 hr with e | hr
      · rw [e]; exact hx
      · exact routesE_zero h0 r hr
    · rw [if_pos hx] at h0
      exact absurd h0 hx
/-- what a right station is -/
theorem check_parts {c : Cf} (h : checkE c = 0) : checkB c.secs c.jos = true ∧ (decide (c.sigs.length ≤ 12) && sigsB c.jos c.sigs) = true ∧ (decide (c.crs.length ≤ 4) && crsB c.secs c.crs) = true ∧ c.rts.length ≤ 12 ∧ routesE c.secs c.jos c.sigs c.rts = 0 ∧ timeB c.tm = true := by
  unfold checkE at h
  cases h1 : checkB c.secs c.jos with
  | false => rw [h1] at h; simp at h
  | true =>
    rw [h1, if_neg (by decide)] at h
    cases h2 : (decide (c.sigs.length ≤ 12) && sigsB c.jos c.sigs) with
    | false => rw [h2] at h; simp at h
    | true =>
      rw [h2, if_neg (by decide)] at h
      cases h3 : (decide (c.crs.length ≤ 4) && crsB c.secs c.crs) with
      | false => rw [h3] at h; simp at h
      | true =>
        rw [h3, if_neg (by decide)] at h
        by_cases h4 : c.rts.length ≤ 12
        · rw [if_neg (by simpa using h4)] at h
          by_cases h5 : routesE c.secs c.jos c.sigs c.rts = 0
          · rw [if_neg (by simpa using h5)] at h
            cases h6 : timeB c.tm with
            | false => rw [h6] at h; simp at h
            | true => exact ⟨rfl, rfl, rfl, h4, h5, rfl⟩
          · rw [if_pos h5] at h
            exact absurd h h5
        · rw [if_pos h4] at h
          simp at h
theorem errR_parts {l : List Sec} {js : List Jo} {sg : List Sg} {r : Rt} (h : errR l js sg r = 0) : routeB l js sg r = true ∧ r.flank = flankM l js (apM sg r.entry) r.path ∧ r.over = overM l js sg r := by
  unfold errR at h
  cases h1 : routeB l js sg r with
  | false => rw [h1] at h; simp at h
  | true =>
    rw [h1, if_neg (by decide)] at h
    by_cases h2 : r.flank = flankM l js (apM sg r.entry) r.path
    · rw [if_neg (by simpa using h2)] at h
      by_cases h3 : r.over = overM l js sg r
      · exact ⟨rfl, h2, h3⟩
      · rw [if_pos h3] at h; simp at h
    · rw [if_pos h2] at h; simp at h
/-- of a right station each route's sections are sections -/
theorem path_in {c : Cf} (h : checkE c = 0) {r : Rt} (hr : r ∈ c.rts) : ∀ x ∈ r.path, isSecB c.secs.length x.sec = true := by
  obtain ⟨h1, h2, h3, h4, h5, h6⟩ := check_parts h
  obtain ⟨a, _, _⟩ := errR_parts (routesE_zero h5 r hr)
  unfold checkB at h1
  unfold routeB at a
  simp only [Bool.and_eq_true] at h1 a
  exact hangs_in h1.2.2.1 r.path _ _ _ (fun hn => next_in h1.2.2.1 hn) a.2.2.2.2.1
end Go.Proofs.Ytnnacdkijeoeoaa

namespace Go.Proofs.Ytnnacdkijeoeoaa
open Go.RowKit

theorem flankE_len (l : List Sec) (js : List Jo) (x : St) (e : Int) (q : List Bool × List Nd) : (flankE l js x e q).2.length ≤ q.2.length + 1 := by
  unfold flankE
  split
  · omega
  · split
    · rw [List.length_append]; simp
    · omega
theorem flankI_len (l : List Sec) (js : List Jo) (x : St) : ∀ (es : List Int) (q : List Bool × List Nd), (flankI l js x es q).2.length ≤ q.2.length + es.length
  | [], q => by simp [flankI]
  | e :: r, q => by
    have a := flankI_len l js x r (flankE l js x e q)
    have b := flankE_len l js x e q
    rw [flankI, List.length_cons]
    omega
theorem endsL_len (l : List Sec) (s : Int) : (endsL (endsOf l s)).length ≤ 4 := by
  unfold endsL endsOf
  rw [List.length_map, List.length_range]
  split
  · have := ends_bd (kindOf l s.toNat)
    omega
  · simp
theorem flankO_len (l : List Sec) (js : List Jo) : ∀ (p : List St) (q : List Bool × List Nd), (flankO l js p q).2.length ≤ q.2.length + 4 * p.length
  | [], q => by simp [flankO]
  | x :: r, q => by
    have a := flankO_len l js r (flankI l js x (endsL (endsOf l x.sec)) q)
    have b := flankI_len l js x (endsL (endsOf l x.sec)) q
    have c := endsL_len l x.sec
    rw [flankO, List.length_cons]
    omega
theorem right_short {l : List Sec} {js : List Jo} {sg : List Sg} {r : Rt} (h : errR l js sg r = 0) : r.flank.length ≤ 32 ∧ r.over.length ≤ 1 ∧ r.path.length ≤ 8 := by
  obtain ⟨h1, h2, h3⟩ := errR_parts h
  have hp : r.path.length ≤ 8 := by
    unfold routeB at h1
    simp only [Bool.and_eq_true, decide_eq_true_eq] at h1
    exact h1.2.2.2.1
  refine ⟨?_, ?_, hp⟩
  · rw [h2]
    unfold flankM
    have := flankO_len l js r.path (barM l.length (apM sg r.entry) r.path, [])
    simp only [List.length_nil] at this
    omega
  · rw [h3]
    unfold overM
    split <;> simp
end Go.Proofs.Ytnnacdkijeoeoaa

namespace Go.Proofs.Ytnnacdkijeoeoaa
open Go.RowKit

theorem pos_way (k i o : Int) (h : posOk k i o = true) : wayOk k i (posOut k i o) = true ∧ wayOut k i (posOut k i o) = o := by
  rcases kind_cases k with rfl | rfl | rfl | hk
  · simp [posOk, waysM, posOkL, farOk, farOut] at h
    rcases h with ⟨rfl | rfl, rfl⟩ <;> simp [posOut, wayOk, wayOut, waysM, posOutL, wayOkL, wayOutL, farOk, farOut, opn]
  · simp [posOk, waysM, posOkL, farOk, farOut] at h
    rcases h with ⟨rfl | rfl, rfl⟩ | ⟨rfl | rfl, rfl⟩ <;> simp [posOut, wayOk, wayOut, waysM, posOutL, wayOkL, wayOutL, farOk, farOut, opn]
  · simp [posOk, waysM, posOkL, farOk, farOut] at h
    rcases h with ⟨rfl | rfl, rfl⟩ | ⟨rfl | rfl, rfl⟩ <;> simp [posOut, wayOk, wayOut, waysM, posOutL, wayOkL, wayOutL, farOk, farOut, opn]
  · rw [posOk, ways_none hk] at h
    cases h

/-- the points as a path has them -/
def posF (l : List Sec) (p : List Int) (x : St) : List Int := p.set x.sec.toNat (posOut (kindOf l x.sec.toNat) x.inn x.out)
def posL (l : List Sec) (path : List St) (p : List Int) : List Int := path.foldl (posF l) p
theorem posF_length (l : List Sec) (p : List Int) (x : St) : (posF l p x).length = p.length := List.length_set
/-- each in another section: no more of them than there are sections left -/
theorem once_few : ∀ (p : List St) (b : List Bool), onceB b p = true → (∀ x ∈ p, x.sec.toNat < b.length) → p.length ≤ unseen b
  | [], _, _, _ => Nat.zero_le _
  | y :: r, b, h, hl => by
    have hy := hl y List.mem_cons_self
    unfold onceB at h
    rw [Bool.and_eq_true, Bool.not_eq_true'] at h
    have ih := once_few r _ h.2 (fun x hx => by rw [List.length_set]; exact hl x (List.mem_cons_of_mem _ hx))
    have := unseen_set b _ hy h.1
    rw [List.length_cons]
    omega
/-- none of a path's sections is one of those -/
theorem once_not : ∀ (p : List St) (b : List Bool), onceB b p = true → ∀ x ∈ p, x.sec.toNat < b.length → seenAt b x.sec.toNat = false
  | [], _, _, x, hx, _ => by cases hx
  | y :: r, b, h, x, hx, hl => by
    unfold onceB at h
    rw [Bool.and_eq_true, Bool.not_eq_true'] at h
    rcases List.mem_cons.1 hx with e | hx
    · rw [e]; exact h.1
    · have ih := once_not r _ h.2 x hx (by rw [List.length_set]; exact hl)
      by_cases hy : y.sec.toNat < b.length
      · rw [seenAt_set _ _ _ hy, Bool.or_eq_false_iff] at ih
        exact ih.2
      · rw [List.set_eq_of_length_le (by omega)] at ih
        exact ih
theorem once_less : ∀ (p : List St) (b c : List Bool), b.length = c.length → (∀ k, seenAt c k = true → seenAt b k = true) → onceB b p = true → onceB c p = true
  | [], _, _, _, _, _ => rfl
  | y :: r, b, c, hl, hs, h => by
    unfold onceB at h ⊢
    rw [Bool.and_eq_true, Bool.not_eq_true'] at h ⊢
    refine ⟨?_, once_less r (b.set y.sec.toNat true) (c.set y.sec.toNat true) (by rw [List.length_set, List.length_set, hl]) (fun k hk => ?_) h.2⟩
    · cases hc : seenAt c y.sec.toNat with
      | false => rfl
      | true => rw [hs _ hc] at h; cases h.1
    · by_cases hy : y.sec.toNat < b.length
      · rw [seenAt_set _ _ _ (by omega)] at hk
        rw [seenAt_set _ _ _ hy]
        rw [Bool.or_eq_true] at hk ⊢
        exact hk.imp id (hs k)
      · rw [List.set_eq_of_length_le (by omega)] at hk ⊢
        exact hs k hk
/-- a position that a path's rest doesn't touch -/
theorem posL_other (l : List Sec) : ∀ (path : List St) (p : List Int) (b : List Bool) (k : Nat), onceB b path = true → seenAt b k = true → (∀ x ∈ path, x.sec.toNat < b.length) → posAt (posL l path p) k = posAt p k
  | [], _, _, _, _, _, _ => rfl
  | x :: r, p, b, k, h, hk, hl => by
    have hx := hl x List.mem_cons_self
    unfold onceB at h
    rw [Bool.and_eq_true, Bool.not_eq_true'] at h
    have ih := posL_other l r (posF l p x) (b.set x.sec.toNat true) k h.2 (by rw [seenAt_set _ _ _ hx, hk, Bool.or_true]) (fun y hy => by rw [List.length_set]; exact hl y (List.mem_cons_of_mem _ hy))
    show posAt (posL l r (posF l p x)) k = _
    rw [ih]
    have hne : x.sec.toNat ≠ k := fun e => by rw [e, hk] at h; cases h.1
    unfold posAt posF
    rw [List.getD_eq_getElem?_getD, List.getD_eq_getElem?_getD, List.getElem?_set_ne hne]
theorem posL_at (l : List Sec) : ∀ (path : List St) (p : List Int) (b : List Bool), onceB b path = true → (∀ x ∈ path, x.sec.toNat < b.length) → b.length = p.length → ∀ x ∈ path, posAt (posL l path p) x.sec.toNat = posOut (kindOf l x.sec.toNat) x.inn x.out
  | [], _, _, _, _, _, x, hx => by cases hx
  | y :: r, p, b, h, hl, hlen, x, hx => by
    have hy := hl y List.mem_cons_self
    unfold onceB at h
    rw [Bool.and_eq_true, Bool.not_eq_true'] at h
    have hl2 : ∀ z ∈ r, z.sec.toNat < (b.set y.sec.toNat true).length := fun z hz => by rw [List.length_set]; exact hl z (List.mem_cons_of_mem _ hz)
    show posAt (posL l r (posF l p y)) x.sec.toNat = _
    rcases List.mem_cons.1 hx with e | hx
    · subst e
      rw [posL_other l r _ _ _ h.2 (by rw [seenAt_set _ _ _ hy]; simp) hl2]
      unfold posAt posF
      rw [List.getD_eq_getElem?_getD, List.getElem?_set_self (by omega)]
      rfl
    · exact posL_at l r _ _ h.2 hl2 (by rw [List.length_set, posF_length, hlen]) x hx

/-- the way of a train begins with a path that hangs together -/
theorem follow_path {l : List Sec} {js : List Jo} {p : List Int} : ∀ (path : List St) (f : Nat) (seen : List Bool) (s i : Int) (ok : Bool), path.length ≤ f → hangsB l js ok s i path = true → onceB seen path = true →
    (∀ x ∈ path, isSecB l.length x.sec = true) → (∀ x ∈ path, posAt p x.sec.toNat = posOut (kindOf l x.sec.toNat) x.inn x.out) → ∃ t, followF f l js p seen s i = path ++ t
  | [], _, _, _, _, _, _, _, _, _, _ => ⟨_, rfl⟩
  | x :: r, 0, _, _, _, _, h, _, _, _, _ => by simp at h
  | x :: r, f + 1, seen, s, i, ok, hf, hh, ho, hs, hp => by
    unfold hangsB at hh
    simp only [Bool.and_eq_true, decide_eq_true_eq] at hh
    obtain ⟨_, h1, h2, h3, h4⟩ := hh
    unfold onceB at ho
    rw [Bool.and_eq_true, Bool.not_eq_true'] at ho
    have hx := hs x List.mem_cons_self
    have hpx := hp x List.mem_cons_self
    obtain ⟨xs, xi, xo⟩ := x
    dsimp only at *
    subst h1 h2
    obtain ⟨w1, w2⟩ := pos_way _ _ _ h3
    rw [followF, if_pos (by rw [hx, ho.1]; rfl), hpx, if_pos w1, w2]
    cases r with
    | nil => exact ⟨_, rfl⟩
    | cons y r' =>
      have hn : nextOk js xs xo = true := by
        unfold hangsB at h4
        rw [Bool.and_eq_true] at h4
        exact h4.1
      rw [if_pos hn]
      obtain ⟨t, ht⟩ := follow_path (y :: r') f (seen.set xs.toNat true) (nextS js xs xo) (nextE js xs xo) (nextOk js xs xo) (by simpa using hf) h4 ho.2 (fun z hz => hs z (List.mem_cons_of_mem _ hz)) (fun z hz => hp z (List.mem_cons_of_mem _ hz))
      rw [ht]
      exact ⟨t, rfl⟩

theorem seen_none (n k : Nat) : seenAt (List.replicate n false) k = false := by
  unfold seenAt
  rw [List.getD_eq_getElem?_getD, List.getElem?_replicate]
  split <;> rfl
theorem nat_of_sec {n : Nat} {s : Int} (h : isSecB n s = true) : s.toNat < n := by
  obtain ⟨k, rfl, hk⟩ := isSecB_true h
  rw [Int.toNat_natCast]
  exact hk

/-! ### What a flank holds -/
def Fine (n : Nat) (b0 : List Bool) (q : List Bool × List Nd) : Prop := q.1.length = n ∧ (∀ k, seenAt b0 k = true → seenAt q.1 k = true) ∧ ∀ d ∈ q.2, isSecB n d.sec = true ∧ seenAt b0 d.sec.toNat = false
theorem fine_E {l : List Sec} {js : List Jo} {b0 : List Bool} {x : St} {e : Int} {q : List Bool × List Nd} (h : Fine l.length b0 q) : Fine l.length b0 (flankE l js x e q) := by
  unfold flankE
  split
  · exact h
  · split
    · rename_i hg
      obtain ⟨h1, h2, h3⟩ := h
      rw [Bool.and_eq_true, Bool.not_eq_true'] at hg
      have hs : isSecB l.length (nextS js x.sec e) = true := by
        have := hg.1
        unfold guardOk at this
        simp only [Bool.and_eq_true] at this
        exact this.2.1
      refine ⟨by rw [List.length_set]; exact h1, fun k hk => ?_, fun d hd => ?_⟩
      · show seenAt (q.1.set _ true) k = true
        rw [seenAt_set _ _ _ (by rw [h1]; exact nat_of_sec hs), h2 k hk, Bool.or_true]
      · rcases List.mem_append.1 hd with hd | hd
        · exact h3 d hd
        · rw [List.mem_singleton] at hd
          subst hd
          refine ⟨hs, ?_⟩
          show seenAt b0 (nextS js x.sec e).toNat = false
          cases hb : seenAt b0 (nextS js x.sec e).toNat with
          | false => rfl
          | true => rw [h2 _ hb] at hg; cases hg.2
    · exact h
theorem fine_I {l : List Sec} {js : List Jo} {b0 : List Bool} {x : St} : ∀ (es : List Int) {q : List Bool × List Nd}, Fine l.length b0 q → Fine l.length b0 (flankI l js x es q)
  | [], _, h => h
  | e :: r, _, h => fine_I r (fine_E (e := e) h)
theorem fine_O {l : List Sec} {js : List Jo} {b0 : List Bool} : ∀ (p : List St) {q : List Bool × List Nd}, Fine l.length b0 q → Fine l.length b0 (flankO l js p q)
  | [], _, h => h
  | x :: r, _, h => fine_O r (fine_I (x := x) _ h)
theorem bar_ap (n : Nat) (ap : Int) (path : List St) {s : Int} (hs : isSecB n s = true) (h : seenAt (barM n ap path) s.toNat = false) : s ≠ ap := by
  obtain ⟨k, rfl, hk⟩ := isSecB_true hs
  rw [Int.toNat_natCast, barM_at _ _ _ _ hk, Bool.or_eq_false_iff] at h
  rintro rfl
  simp at h

/-! ### A right station -/
structure Route (l : List Sec) (js : List Jo) (sg : List Sg) (r : Rt) : Prop where
  sig : isSecB sg.length r.entry = true
  ok : nextOk js (sgAt sg r.entry).sec (sgAt sg r.entry).fin = true
  one : 1 ≤ r.path.length
  eight : r.path.length ≤ 8
  sec : (r.path.getD 0 default).sec = nextS js (sgAt sg r.entry).sec (sgAt sg r.entry).fin
  inn : (r.path.getD 0 default).inn = nextE js (sgAt sg r.entry).sec (sgAt sg r.entry).fin
  path : ∀ x ∈ r.path, isSecB l.length x.sec = true
  follow : ∃ t, followM l js (nextS js (sgAt sg r.entry).sec (sgAt sg r.entry).fin) (nextE js (sgAt sg r.entry).sec (sgAt sg r.entry).fin) (posL l r.path (List.replicate l.length 0)) = r.path ++ t
  locks : ∀ x ∈ locksM r, isSecB l.length x = true ∧ x ≠ (sgAt sg r.entry).sec
theorem route_right {c : Cf} (h : checkE c = 0) {r : Rt} (hr : r ∈ c.rts) : Route c.secs c.jos c.sigs r := by
  have hpath := path_in h hr
  obtain ⟨h1, h2, h3, h4, h5, h6⟩ := check_parts h
  obtain ⟨a, hfl, hov⟩ := errR_parts (routesE_zero h5 r hr)
  unfold checkB at h1
  unfold routeB at a
  simp only [Bool.and_eq_true, decide_eq_true_eq] at h1 a
  obtain ⟨a1, a2, a3, a4, a5, a6, _⟩ := a
  have hj := h1.2.2.1
  have hap : apM c.sigs r.entry = (sgAt c.sigs r.entry).sec := by
    unfold apM
    rw [if_pos a1]
  rw [hap] at hfl
  unfold overM overOk at hov
  rw [hap] at hov
  clear hap h h2 h3 h4 h5 h6
  obtain ⟨en0, ex0, path, flank, over, shunt⟩ := r
  dsimp only at *
  suffices H : isSecB c.sigs.length en0 = true ∧ nextOk c.jos (sgAt c.sigs en0).sec (sgAt c.sigs en0).fin = true ∧ 1 ≤ path.length ∧ path.length ≤ 8 ∧ (path.getD 0 default).sec = nextS c.jos (sgAt c.sigs en0).sec (sgAt c.sigs en0).fin ∧ (path.getD 0 default).inn = nextE c.jos (sgAt c.sigs en0).sec (sgAt c.sigs en0).fin ∧ (∀ x ∈ path, isSecB c.secs.length x.sec = true) ∧
      (∃ t, followM c.secs c.jos (nextS c.jos (sgAt c.sigs en0).sec (sgAt c.sigs en0).fin) (nextE c.jos (sgAt c.sigs en0).sec (sgAt c.sigs en0).fin) (posL c.secs path (List.replicate c.secs.length 0)) = path ++ t) ∧
      ∀ x ∈ locksM ⟨en0, ex0, path, flank, over, shunt⟩, isSecB c.secs.length x = true ∧ x ≠ (sgAt c.sigs en0).sec by
    obtain ⟨k1, k2, k3, k4, k5, k6, k7, k8, k9⟩ := H
    exact ⟨k1, k2, k3, k4, k5, k6, k7, k8, k9⟩
  generalize sgAt c.sigs en0 = sgn at *
  obtain ⟨ap, en⟩ := sgn
  dsimp only at *
  have hap' : ∀ x ∈ path, x.sec ≠ ap := fun x hx e => by
    have h0 := hpath x hx
    have hl := nat_of_sec h0
    have := once_not _ _ a6 x hx (by rw [List.length_set, List.length_replicate]; exact hl)
    rw [e] at this hl
    rw [seenAt_set _ _ _ (by rw [List.length_replicate]; exact hl)] at this
    simp at this
  have honce : onceB (List.replicate c.secs.length false) path = true := once_less _ _ _ (by rw [List.length_set]) (fun k hk => by rw [seen_none] at hk; cases hk) a6
  cases path with
  | nil => simp at a3
  | cons y rest =>
    have a5' := a5
    unfold hangsB at a5'
    simp only [Bool.and_eq_true, decide_eq_true_eq] at a5'
    obtain ⟨b1, b2, b3, _, _⟩ := a5'
    refine ⟨a1, b1, a3, a4, b2, b3, hpath, ?_, ?_⟩
    · have hend : isEndB c.secs (nextS c.jos ap en) (nextE c.jos ap en) = true := (next_back hj b1).2.2.2.2
      unfold followM
      rw [if_pos hend]
      refine follow_path _ _ _ _ _ _ ?_ a5 honce hpath (posL_at _ _ _ _ honce (fun x hx => by rw [List.length_replicate]; exact nat_of_sec (hpath x hx)) (by rw [List.length_replicate, List.length_replicate]))
      have := once_few _ _ honce (fun x hx => by rw [List.length_replicate]; exact nat_of_sec (hpath x hx))
      rw [unseen_new] at this
      omega
    · intro x hx
      have hx' : x ∈ rawLocks ⟨en0, ex0, y :: rest, flank, over, shunt⟩ := by
        unfold locksM at hx
        exact (sortM_mem _ _).1 ((compact_mem _ _).1 hx)
      unfold rawLocks at hx'
      dsimp only at hx'
      rcases List.mem_append.1 hx' with hx | hx
      · rw [hov] at hx
        split at hx
        · rename_i ho
          simp only [Bool.and_eq_true, Bool.not_eq_true'] at ho
          rw [List.mem_singleton] at hx
          subst hx
          exact ⟨ho.2.2.2.1, bar_ap _ _ _ ho.2.2.2.1 ho.2.2.2.2.2⟩
        · cases hx
      · rcases List.mem_append.1 hx with hx | hx
        · obtain ⟨z, hz, rfl⟩ := List.mem_map.1 hx
          exact ⟨hpath z hz, hap' z hz⟩
        · obtain ⟨z, hz, rfl⟩ := List.mem_map.1 hx
          rw [hfl] at hz
          unfold flankM at hz
          have hf : Fine c.secs.length (barM c.secs.length ap (y :: rest)) (flankO c.secs c.jos (y :: rest) (barM c.secs.length ap (y :: rest), [])) := fine_O _ ⟨barM_length _ _ _, fun _ h => h, fun d hd => by cases hd⟩
          obtain ⟨q1, q2⟩ := hf.2.2 z hz
          exact ⟨q1, bar_ap _ _ _ q1 q2⟩

theorem locks_some {r : Rt} (h : 1 ≤ r.path.length) : locksM r ≠ [] := by
  intro e
  have : (r.path[0]'(by omega)).sec ∈ locksM r := by
    unfold locksM
    rw [compact_mem, sortM_mem]
    unfold rawLocks
    exact List.mem_append_right _ (List.mem_append_left _ (List.mem_map_of_mem (List.getElem_mem _)))
  rw [e] at this
  cases this
end Go.Proofs.Ytnnacdkijeoeoaa

namespace Go.Proofs.Ytnnacdkijeoeoaa

/-- the document's walk along a path: from an end, what was seen -/
def rpathL (l : List Sec) (js : List Jo) (sg : List Sg) (exit : Int) (shunt : Bool) : Int → Int → List Int → List St → Bool
  | _, _, _, [] => true
  | s, e, seen, x :: r => (nextOk js s e && (decide (nextS js s e = x.sec) && (decide (nextE js s e = x.inn) && !inL seen (nextS js s e)))) &&
      (posOk (rkind l (nextS js s e)) x.inn x.out && (!atL x.sec x.out (if r = [] then exit else -1) sg 0 && (!(shunt && !decide (lineOf l (nextS js s e).toNat = 0)) && rpathL l js sg exit shunt x.sec x.out (seen ++ [nextS js s e]) r)))
/-- the path's end -/
def rfinB (js : List Jo) (sg : List Sg) (exit : Int) (x : St) : Bool := if 0 ≤ exit then decide (sgAt sg exit = ⟨x.sec, x.out⟩) else !nextOk js x.sec x.out

theorem at_all (s e : Int) (sg : List Sg) : atL s e (-1) sg 0 = sg.contains ⟨s, e⟩ := by
  rw [Bool.eq_iff_iff, ← Bool.not_eq_false, atL_none, List.contains_iff_mem]
  constructor
  · intro h
    refine Classical.byContradiction fun hn => h fun k hk hs he => False.elim (hn ?_)
    have : sg[k] = ⟨s, e⟩ := by
      generalize sg[k] = a at *
      obtain ⟨a1, a2⟩ := a
      dsimp only at *
      rw [hs, he]
    rw [← this]
    exact List.getElem_mem hk
  · intro h hh
    obtain ⟨k, hk, e1⟩ := List.getElem_of_mem h
    have := hh k hk (by rw [e1]) (by rw [e1])
    omega
theorem at_last {js : List Jo} {sg : List Sg} (hs : sigsB js sg = true) {exit : Int} (hx : exit = -1 ∨ isSecB sg.length exit = true) {x : St} (h : rfinB js sg exit x = true) : atL x.sec x.out exit sg 0 = false := by
  rw [sigsB_iff] at hs
  rw [atL_none]
  intro k hk h1 h2
  have e : sg[k] = ⟨x.sec, x.out⟩ := by
    generalize sg[k] = a at *
    obtain ⟨a1, a2⟩ := a
    dsimp only at *
    rw [h1, h2]
  unfold rfinB at h
  rcases hx with rfl | hx
  · rw [if_neg (by decide)] at h
    have := hs.1 _ (List.getElem_mem hk)
    rw [e] at this
    dsimp only at this
    rw [this] at h
    cases h
  · obtain ⟨j, rfl, hj⟩ := isSecB_true hx
    rw [if_pos (by omega), sgAt_nat hj, decide_eq_true_eq] at h
    have hn := hs.2
    rw [List.nodup_iff_pairwise_ne, List.pairwise_iff_getElem] at hn
    rcases Nat.lt_trichotomy k j with hlt | rfl | hlt
    · exact absurd (e.trans h.symm) (hn k j hk hj hlt)
    · omega
    · exact absurd (h.trans e.symm) (hn j k hj hk hlt)
theorem fin_end {js : List Jo} {sg : List Sg} {exit : Int} (hx : exit = -1 ∨ isSecB sg.length exit = true) (x : St) : rfinB js sg exit x = endB js sg exit x := by
  unfold rfinB endB leaveS
  rcases hx with rfl | hx
  · rw [if_neg (by decide), if_pos rfl]
  · obtain ⟨j, rfl, hj⟩ := isSecB_true hx
    rw [if_pos (by omega), if_neg (by omega)]

theorem path_ref {l : List Sec} {js : List Jo} {sg : List Sg} {exit : Int} {shunt : Bool} (hj : jointsB l js = true) (hsg : sigsB js sg = true) (hx : exit = -1 ∨ isSecB sg.length exit = true) :
    ∀ (r : List St) (x : St) (s e : Int) (seen : List Int) (b : List Bool), b.length = l.length → (∀ k : Nat, k < l.length → seenAt b k = inL seen k) →
      ((rpathL l js sg exit shunt s e seen (x :: r) = true ∧ rfinB js sg exit ((x :: r).getLast (by simp)) = true) ↔
        (hangsB l js (nextOk js s e) (nextS js s e) (nextE js s e) (x :: r) = true ∧ onceB b (x :: r) = true ∧ clearB sg ((x :: r).dropLast) = true ∧ endB js sg exit ((x :: r).getLast (by simp)) = true ∧ (shunt && linedB l (x :: r)) = false))
  | r, x, s, e, seen, b, hbl, hsb => by
    rw [fin_end hx]
    rw [rpathL, hangsB, onceB, linedB]
    generalize hq : nextS js s e = q at *
    cases hok : nextOk js s e
    · simp
    · have hqs : isSecB l.length q = true := by rw [← hq]; exact next_in hj hok
      obtain ⟨m, rfl, hm⟩ := isSecB_true hqs
      have hrk : rkind l (m : Int) = kindOf l m := by unfold rkind; rw [hqs, if_pos rfl, Int.toNat_natCast]
      rw [hrk, Int.toNat_natCast]
      generalize nextE js s e = E at *
      obtain ⟨xs, xi, xo⟩ := x
      dsimp only
      by_cases h1 : (m : Int) = xs
      rotate_left
      · simp [h1, Ne.symm h1]
      subst h1
      by_cases h2 : E = xi
      rotate_left
      · simp [h2, Ne.symm h2]
      subst h2
      rw [Int.toNat_natCast, hsb m hm]
      cases hin : inL seen (m : Int)
      rotate_left
      · simp
      cases hpo : posOk (kindOf l m) E xo
      · simp
      cases r with
      | nil =>
        simp only [hangsB, onceB, rpathL, clearB, linedB, List.getLast_singleton, List.dropLast_singleton, if_true, decide_true, Bool.not_false, Bool.true_and, Bool.and_true, Bool.or_false, true_and]
        constructor
        · rintro ⟨h3, h4⟩
          rw [Bool.and_eq_true, Bool.not_eq_true'] at h3
          exact ⟨h4, by have := h3.2; cases shunt <;> cases hz : decide (lineOf l m = 0) <;> simp_all⟩
        · rintro ⟨h4, h5⟩
          refine ⟨?_, h4⟩
          have := at_last hsg hx (x := ⟨(m : Int), E, xo⟩) (by rw [fin_end hx]; exact h4)
          dsimp only at this
          rw [this, h5]
          rfl
      | cons y r' =>
        have ih := path_ref hj hsg hx (shunt := shunt) r' y (m : Int) xo (seen ++ [(m : Int)]) (b.set m true) (by rw [List.length_set]; exact hbl) (fun k hk => by
          rw [seenAt_set _ _ _ (by omega), hsb k hk, inL_append]
          have : inL [(m : Int)] k = decide (m = k) := by
            unfold inL
            by_cases e3 : m = k
            · simp [e3]
            · have : ¬ (m : Int) = (k : Int) := by omega
              simp [e3, this]
          rw [this, Bool.or_comm])
        rw [fin_end hx] at ih
        rw [List.getLast_cons (by simp), List.dropLast_cons_of_ne_nil (by simp), clearB, if_neg (by simp), at_all]
        generalize hA : rpathL l js sg exit shunt (m : Int) xo (seen ++ [(m : Int)]) (y :: r') = rp at *
        generalize hangsB l js (nextOk js (m : Int) xo) (nextS js (m : Int) xo) (nextE js (m : Int) xo) (y :: r') = hg at *
        generalize onceB (b.set m true) (y :: r') = oc at *
        generalize clearB sg (y :: r').dropLast = cl at *
        generalize endB js sg exit ((y :: r').getLast (by simp)) = en at *
        generalize linedB l (y :: r') = ln at *
        have hls : leaveS ⟨(m : Int), E, xo⟩ = ⟨(m : Int), xo⟩ := rfl
        rw [hls]
        generalize sg.contains (⟨(m : Int), xo⟩ : Sg) = ct at *
        generalize decide (lineOf l m = 0) = lz at *
        clear hA hin hpo hok hq
        cases rp <;> cases hg <;> cases oc <;> cases cl <;> cases en <;> cases ln <;> cases ct <;> cases lz <;> cases shunt <;> simp_all
end Go.Proofs.Ytnnacdkijeoeoaa


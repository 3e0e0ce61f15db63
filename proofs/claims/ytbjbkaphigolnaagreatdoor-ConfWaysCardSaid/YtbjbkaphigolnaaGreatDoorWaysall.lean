import Derived.Test.YtbjbkaphigolnaaGreatDoorMas
import Derived.Deep.CutRange
import Derived.Deep.RegionHeld3
import Derived.Deep.LoopGhost
import Derived.BigQuiet
import Derived.Laws.MakeOwn
import Derived.Test.YtbjbkaphigolnaaGreatDoorCards
import Derived.Test.YtbjbkaphigolnaaGreatDoorTie
/- A right route is short: its flank, its overlap, its path. -/
namespace Go.Proofs.YtbjbkaphigolnaaGreatDoor
open Go.RowKit

theorem flankE_len (l : List Sec) (js : List Jo) (x : St) (e : Int) (q : List Bool × List Nd) : (flankE l js x e q).2.length ≤ q.2.length + 1 := by
  unfold flankE
  split
  · omega
  · split
    · rw [List.length_append]; simp
    · omega
theorem flankI_len (l : List Sec) (js : List Jo) (x : St) : ∀ (es : List Int) (q : List Bool × List Nd), (flankI l js x es q).2.length ≤ q.2.length + es.length
  | [], q => by simp [flankI]
  | e :: r, q => by
    have a := flankI_len l js x r (flankE l js x e q)
    have b := flankE_len l js x e q
    rw [flankI, List.length_cons]
    omega
theorem endsL_len (l : List Sec) (s : Int) : (endsL (endsOf l s)).length ≤ 4 := by
  unfold endsL endsOf
  rw [List.length_map, List.length_range]
  split
  · have := ends_bd (kindOf l s.toNat)
    omega
  · simp
theorem flankO_len (l : List Sec) (js : List Jo) : ∀ (p : List St) (q : List Bool × List Nd), (flankO l js p q).2.length ≤ q.2.length + 4 * p.length
  | [], q => by simp [flankO]
  | x :: r, q => by
    have a := flankO_len l js r (flankI l js x (endsL (endsOf l x.sec)) q)
    have b := flankI_len l js x (endsL (endsOf l x.sec)) q
    have c := endsL_len l x.sec
    rw [flankO, List.length_cons]
    omega
theorem right_short {l : List Sec} {js : List Jo} {sg : List Sg} {r : Rt} (h : errR l js sg r = 0) : r.flank.length ≤ 32 ∧ r.over.length ≤ 1 ∧ r.path.length ≤ 8 := by
  obtain ⟨h1, h2, h3⟩ := errR_parts h
  have hp : r.path.length ≤ 8 := by
    unfold routeB at h1
    simp only [Bool.and_eq_true, decide_eq_true_eq] at h1
    exact h1.2.2.2.1
  refine ⟨?_, ?_, hp⟩
  · rw [h2]
    unfold flankM
    have := flankO_len l js r.path (barM l.length (apM sg r.entry) r.path, [])
    simp only [List.length_nil] at this
    omega
  · rw [h3]
    unfold overM
    split <;> simp
end Go.Proofs.YtbjbkaphigolnaaGreatDoor
/- Plain mathematics of ConfWays: a right route's path begins the way that a train takes, with the points as the path has them; what a route locks; conflicts both ways round. -/
namespace Go.Proofs.YtbjbkaphigolnaaGreatDoor
open Go.RowKit

theorem pos_way (k i o : Int) (h : posOk k i o = true) : wayOk k i (posOut k i o) = true ∧ wayOut k i (posOut k i o) = o := by
  rcases kind_cases k with rfl | rfl | rfl | hk
  · simp [posOk, waysM, posOkL, farOk, farOut] at h
    rcases h with ⟨rfl | rfl, rfl⟩ <;> simp [posOut, wayOk, wayOut, waysM, posOutL, wayOkL, wayOutL, farOk, farOut, opn]
  · simp [posOk, waysM, posOkL, farOk, farOut] at h
    rcases h with ⟨rfl | rfl, rfl⟩ | ⟨rfl | rfl, rfl⟩ <;> simp [posOut, wayOk, wayOut, waysM, posOutL, wayOkL, wayOutL, farOk, farOut, opn]
  · simp [posOk, waysM, posOkL, farOk, farOut] at h
    rcases h with ⟨rfl | rfl, rfl⟩ | ⟨rfl | rfl, rfl⟩ <;> simp [posOut, wayOk, wayOut, waysM, posOutL, wayOkL, wayOutL, farOk, farOut, opn]
  · rw [posOk, ways_none hk] at h
    cases h

/-- the points as a path has them -/
def posF (l : List Sec) (p : List Int) (x : St) : List Int := p.set x.sec.toNat (posOut (kindOf l x.sec.toNat) x.inn x.out)
def posL (l : List Sec) (path : List St) (p : List Int) : List Int := path.foldl (posF l) p
theorem posF_length (l : List Sec) (p : List Int) (x : St) : (posF l p x).length = p.length := List.length_set
theorem posL_length (l : List Sec) : ∀ (path : List St) (p : List Int), (posL l path p).length = p.length
  | [], _ => rfl
  | x :: r, p => by
    show (posL l r (posF l p x)).length = _
    rw [posL_length l r, posF_length]
theorem posL_take (l : List Sec) (path : List St) (p : List Int) {k : Nat} (h : k < path.length) : posL l (path.take (k + 1)) p = posF l (posL l (path.take k) p) path[k] := by
  unfold posL
  rw [List.take_succ_eq_append_getElem h, List.foldl_append]
  rfl

/-- each in another section: no more of them than there are sections left -/
theorem once_few : ∀ (p : List St) (b : List Bool), onceB b p = true → (∀ x ∈ p, x.sec.toNat < b.length) → p.length ≤ unseen b
  | [], _, _, _ => Nat.zero_le _
  | y :: r, b, h, hl => by
    have hy := hl y List.mem_cons_self
    unfold onceB at h
    rw [Bool.and_eq_true, Bool.not_eq_true'] at h
    have ih := once_few r _ h.2 (fun x hx => by rw [List.length_set]; exact hl x (List.mem_cons_of_mem _ hx))
    have := unseen_set b _ hy h.1
    rw [List.length_cons]
    omega
/-- none of a path's sections is one of those -/
theorem once_not : ∀ (p : List St) (b : List Bool), onceB b p = true → ∀ x ∈ p, x.sec.toNat < b.length → seenAt b x.sec.toNat = false
  | [], _, _, x, hx, _ => by cases hx
  | y :: r, b, h, x, hx, hl => by
    unfold onceB at h
    rw [Bool.and_eq_true, Bool.not_eq_true'] at h
    rcases List.mem_cons.1 hx with e | hx
    · rw [e]; exact h.1
    · have ih := once_not r _ h.2 x hx (by rw [List.length_set]; exact hl)
      by_cases hy : y.sec.toNat < b.length
      · rw [seenAt_set _ _ _ hy, Bool.or_eq_false_iff] at ih
        exact ih.2
      · rw [List.set_eq_of_length_le (by omega)] at ih
        exact ih
theorem once_less : ∀ (p : List St) (b c : List Bool), b.length = c.length → (∀ k, seenAt c k = true → seenAt b k = true) → onceB b p = true → onceB c p = true
  | [], _, _, _, _, _ => rfl
  | y :: r, b, c, hl, hs, h => by
    unfold onceB at h ⊢
    rw [Bool.and_eq_true, Bool.not_eq_true'] at h ⊢
    refine ⟨?_, once_less r (b.set y.sec.toNat true) (c.set y.sec.toNat true) (by rw [List.length_set, List.length_set, hl]) (fun k hk => ?_) h.2⟩
    · cases hc : seenAt c y.sec.toNat with
      | false => rfl
      | true => rw [hs _ hc] at h; cases h.1
    · by_cases hy : y.sec.toNat < b.length
      · rw [seenAt_set _ _ _ (by omega)] at hk
        rw [seenAt_set _ _ _ hy]
        rw [Bool.or_eq_true] at hk ⊢
        exact hk.imp id (hs k)
      · rw [List.set_eq_of_length_le (by omega)] at hk ⊢
        exact hs k hk
/-- a position that a path's rest doesn't touch -/
theorem posL_other (l : List Sec) : ∀ (path : List St) (p : List Int) (b : List Bool) (k : Nat), onceB b path = true → seenAt b k = true → (∀ x ∈ path, x.sec.toNat < b.length) → posAt (posL l path p) k = posAt p k
  | [], _, _, _, _, _, _ => rfl
  | x :: r, p, b, k, h, hk, hl => by
    have hx := hl x List.mem_cons_self
    unfold onceB at h
    rw [Bool.and_eq_true, Bool.not_eq_true'] at h
    have ih := posL_other l r (posF l p x) (b.set x.sec.toNat true) k h.2 (by rw [seenAt_set _ _ _ hx, hk, Bool.or_true]) (fun y hy => by rw [List.length_set]; exact hl y (List.mem_cons_of_mem _ hy))
    show posAt (posL l r (posF l p x)) k = _
    rw [ih]
    have hne : x.sec.toNat ≠ k := fun e => by rw [e, hk] at h; cases h.1
    unfold posAt posF
    rw [List.getD_eq_getElem?_getD, List.getD_eq_getElem?_getD, List.getElem?_set_ne hne]
theorem posL_at (l : List Sec) : ∀ (path : List St) (p : List Int) (b : List Bool), onceB b path = true → (∀ x ∈ path, x.sec.toNat < b.length) → b.length = p.length → ∀ x ∈ path, posAt (posL l path p) x.sec.toNat = posOut (kindOf l x.sec.toNat) x.inn x.out
  | [], _, _, _, _, _, x, hx => by cases hx
  | y :: r, p, b, h, hl, hlen, x, hx => by
    have hy := hl y List.mem_cons_self
    unfold onceB at h
    rw [Bool.and_eq_true, Bool.not_eq_true'] at h
    have hl2 : ∀ z ∈ r, z.sec.toNat < (b.set y.sec.toNat true).length := fun z hz => by rw [List.length_set]; exact hl z (List.mem_cons_of_mem _ hz)
    show posAt (posL l r (posF l p y)) x.sec.toNat = _
    rcases List.mem_cons.1 hx with e | hx
    · subst e
      rw [posL_other l r _ _ _ h.2 (by rw [seenAt_set _ _ _ hy]; simp) hl2]
      unfold posAt posF
      rw [List.getD_eq_getElem?_getD, List.getElem?_set_self (by omega)]
      rfl
    · exact posL_at l r _ _ h.2 hl2 (by rw [List.length_set, posF_length, hlen]) x hx

/-- the way of a train begins with a path that hangs together -/
theorem follow_path {l : List Sec} {js : List Jo} {p : List Int} : ∀ (path : List St) (f : Nat) (seen : List Bool) (s i : Int) (ok : Bool), path.length ≤ f → hangsB l js ok s i path = true → onceB seen path = true →
    (∀ x ∈ path, isSecB l.length x.sec = true) → (∀ x ∈ path, posAt p x.sec.toNat = posOut (kindOf l x.sec.toNat) x.inn x.out) → ∃ t, followF f l js p seen s i = path ++ t
  | [], _, _, _, _, _, _, _, _, _, _ => ⟨_, rfl⟩
  | x :: r, 0, _, _, _, _, h, _, _, _, _ => by simp at h
  | x :: r, f + 1, seen, s, i, ok, hf, hh, ho, hs, hp => by
    unfold hangsB at hh
    simp only [Bool.and_eq_true, decide_eq_true_eq] at hh
    obtain ⟨_, h1, h2, h3, h4⟩ := hh
    unfold onceB at ho
    rw [Bool.and_eq_true, Bool.not_eq_true'] at ho
    have hx := hs x List.mem_cons_self
    have hpx := hp x List.mem_cons_self
    obtain ⟨xs, xi, xo⟩ := x
    dsimp only at *
    subst h1 h2
    obtain ⟨w1, w2⟩ := pos_way _ _ _ h3
    rw [followF, if_pos (by rw [hx, ho.1]; rfl), hpx, if_pos w1, w2]
    cases r with
    | nil => exact ⟨_, rfl⟩
    | cons y r' =>
      have hn : nextOk js xs xo = true := by
        unfold hangsB at h4
        rw [Bool.and_eq_true] at h4
        exact h4.1
      rw [if_pos hn]
      obtain ⟨t, ht⟩ := follow_path (y :: r') f (seen.set xs.toNat true) (nextS js xs xo) (nextE js xs xo) (nextOk js xs xo) (by simpa using hf) h4 ho.2 (fun z hz => hs z (List.mem_cons_of_mem _ hz)) (fun z hz => hp z (List.mem_cons_of_mem _ hz))
      rw [ht]
      exact ⟨t, rfl⟩

theorem seen_none (n k : Nat) : seenAt (List.replicate n false) k = false := by
  unfold seenAt
  rw [List.getD_eq_getElem?_getD, List.getElem?_replicate]
  split <;> rfl
theorem nat_of_sec {n : Nat} {s : Int} (h : isSecB n s = true) : s.toNat < n := by
  obtain ⟨k, rfl, hk⟩ := isSecB_true h
  rw [Int.toNat_natCast]
  exact hk

/-! ### What a flank holds -/
def Fine (n : Nat) (b0 : List Bool) (q : List Bool × List Nd) : Prop := q.1.length = n ∧ (∀ k, seenAt b0 k = true → seenAt q.1 k = true) ∧ ∀ d ∈ q.2, isSecB n d.sec = true ∧ seenAt b0 d.sec.toNat = false
theorem fine_E {l : List Sec} {js : List Jo} {b0 : List Bool} {x : St} {e : Int} {q : List Bool × List Nd} (h : Fine l.length b0 q) : Fine l.length b0 (flankE l js x e q) := by
  unfold flankE
  split
  · exact h
  · split
    · rename_i hg
      obtain ⟨h1, h2, h3⟩ := h
      rw [Bool.and_eq_true, Bool.not_eq_true'] at hg
      have hs : isSecB l.length (nextS js x.sec e) = true := by
        have := hg.1
        unfold guardOk at this
        simp only [Bool.and_eq_true] at this
        exact this.2.1
      refine ⟨by rw [List.length_set]; exact h1, fun k hk => ?_, fun d hd => ?_⟩
      · show seenAt (q.1.set _ true) k = true
        rw [seenAt_set _ _ _ (by rw [h1]; exact nat_of_sec hs), h2 k hk, Bool.or_true]
      · rcases List.mem_append.1 hd with hd | hd
        · exact h3 d hd
        · rw [List.mem_singleton] at hd
          subst hd
          refine ⟨hs, ?_⟩
          show seenAt b0 (nextS js x.sec e).toNat = false
          cases hb : seenAt b0 (nextS js x.sec e).toNat with
          | false => rfl
          | true => rw [h2 _ hb] at hg; cases hg.2
    · exact h
theorem fine_I {l : List Sec} {js : List Jo} {b0 : List Bool} {x : St} : ∀ (es : List Int) {q : List Bool × List Nd}, Fine l.length b0 q → Fine l.length b0 (flankI l js x es q)
  | [], _, h => h
  | e :: r, _, h => fine_I r (fine_E (e := e) h)
theorem fine_O {l : List Sec} {js : List Jo} {b0 : List Bool} : ∀ (p : List St) {q : List Bool × List Nd}, Fine l.length b0 q → Fine l.length b0 (flankO l js p q)
  | [], _, h => h
  | x :: r, _, h => fine_O r (fine_I (x := x) _ h)
theorem bar_ap (n : Nat) (ap : Int) (path : List St) {s : Int} (hs : isSecB n s = true) (h : seenAt (barM n ap path) s.toNat = false) : s ≠ ap := by
  obtain ⟨k, rfl, hk⟩ := isSecB_true hs
  rw [Int.toNat_natCast, barM_at _ _ _ _ hk, Bool.or_eq_false_iff] at h
  rintro rfl
  simp at h

/-! ### A right station -/
structure Route (l : List Sec) (js : List Jo) (sg : List Sg) (r : Rt) : Prop where
  sig : isSecB sg.length r.entry = true
  ok : nextOk js (sgAt sg r.entry).sec (sgAt sg r.entry).fin = true
  one : 1 ≤ r.path.length
  eight : r.path.length ≤ 8
  sec : (r.path.getD 0 default).sec = nextS js (sgAt sg r.entry).sec (sgAt sg r.entry).fin
  inn : (r.path.getD 0 default).inn = nextE js (sgAt sg r.entry).sec (sgAt sg r.entry).fin
  path : ∀ x ∈ r.path, isSecB l.length x.sec = true
  follow : ∃ t, followM l js (nextS js (sgAt sg r.entry).sec (sgAt sg r.entry).fin) (nextE js (sgAt sg r.entry).sec (sgAt sg r.entry).fin) (posL l r.path (List.replicate l.length 0)) = r.path ++ t
  locks : ∀ x ∈ locksM r, isSecB l.length x = true ∧ x ≠ (sgAt sg r.entry).sec
theorem route_right {c : Cf} (h : checkE c = 0) {r : Rt} (hr : r ∈ c.rts) : Route c.secs c.jos c.sigs r := by
  have hpath := path_in h hr
  obtain ⟨h1, h2, h3, h4, h5, h6⟩ := check_parts h
  obtain ⟨a, hfl, hov⟩ := errR_parts (routesE_zero h5 r hr)
  unfold checkB at h1
  unfold routeB at a
  simp only [Bool.and_eq_true, decide_eq_true_eq] at h1 a
  obtain ⟨a1, a2, a3, a4, a5, a6, _⟩ := a
  have hj := h1.2.2.1
  have hap : apM c.sigs r.entry = (sgAt c.sigs r.entry).sec := by
    unfold apM
    rw [if_pos a1]
  rw [hap] at hfl
  unfold overM overOk at hov
  rw [hap] at hov
  clear hap h h2 h3 h4 h5 h6
  obtain ⟨en0, ex0, path, flank, over, shunt⟩ := r
  dsimp only at *
  suffices H : isSecB c.sigs.length en0 = true ∧ nextOk c.jos (sgAt c.sigs en0).sec (sgAt c.sigs en0).fin = true ∧ 1 ≤ path.length ∧ path.length ≤ 8 ∧ (path.getD 0 default).sec = nextS c.jos (sgAt c.sigs en0).sec (sgAt c.sigs en0).fin ∧ (path.getD 0 default).inn = nextE c.jos (sgAt c.sigs en0).sec (sgAt c.sigs en0).fin ∧ (∀ x ∈ path, isSecB c.secs.length x.sec = true) ∧
      (∃ t, followM c.secs c.jos (nextS c.jos (sgAt c.sigs en0).sec (sgAt c.sigs en0).fin) (nextE c.jos (sgAt c.sigs en0).sec (sgAt c.sigs en0).fin) (posL c.secs path (List.replicate c.secs.length 0)) = path ++ t) ∧
      ∀ x ∈ locksM ⟨en0, ex0, path, flank, over, shunt⟩, isSecB c.secs.length x = true ∧ x ≠ (sgAt c.sigs en0).sec by
    obtain ⟨k1, k2, k3, k4, k5, k6, k7, k8, k9⟩ := H
    exact ⟨k1, k2, k3, k4, k5, k6, k7, k8, k9⟩
  generalize sgAt c.sigs en0 = sgn at *
  obtain ⟨ap, en⟩ := sgn
  dsimp only at *
  have hap' : ∀ x ∈ path, x.sec ≠ ap := fun x hx e => by
    have h0 := hpath x hx
    have hl := nat_of_sec h0
    have := once_not _ _ a6 x hx (by rw [List.length_set, List.length_replicate]; exact hl)
    rw [e] at this hl
    rw [seenAt_set _ _ _ (by rw [List.length_replicate]; exact hl)] at this
    simp at this
  have honce : onceB (List.replicate c.secs.length false) path = true := once_less _ _ _ (by rw [List.length_set]) (fun k hk => by rw [seen_none] at hk; cases hk) a6
  cases path with
  | nil => simp at a3
  | cons y rest =>
    have a5' := a5
    unfold hangsB at a5'
    simp only [Bool.and_eq_true, decide_eq_true_eq] at a5'
    obtain ⟨b1, b2, b3, _, _⟩ := a5'
    refine ⟨a1, b1, a3, a4, b2, b3, hpath, ?_, ?_⟩
    · have hend : isEndB c.secs (nextS c.jos ap en) (nextE c.jos ap en) = true := (next_back hj b1).2.2.2.2
      unfold followM
      rw [if_pos hend]
      refine follow_path _ _ _ _ _ _ ?_ a5 honce hpath (posL_at _ _ _ _ honce (fun x hx => by rw [List.length_replicate]; exact nat_of_sec (hpath x hx)) (by rw [List.length_replicate, List.length_replicate]))
      have := once_few _ _ honce (fun x hx => by rw [List.length_replicate]; exact nat_of_sec (hpath x hx))
      rw [unseen_new] at this
      omega
    · intro x hx
      have hx' : x ∈ rawLocks ⟨en0, ex0, y :: rest, flank, over, shunt⟩ := by
        unfold locksM at hx
        exact (sortM_mem _ _).1 ((compact_mem _ _).1 hx)
      unfold rawLocks at hx'
      dsimp only at hx'
      rcases List.mem_append.1 hx' with hx | hx
      · rw [hov] at hx
        split at hx
        · rename_i ho
          simp only [Bool.and_eq_true, Bool.not_eq_true'] at ho
          rw [List.mem_singleton] at hx
          subst hx
          exact ⟨ho.2.2.2.1, bar_ap _ _ _ ho.2.2.2.1 ho.2.2.2.2.2⟩
        · cases hx
      · rcases List.mem_append.1 hx with hx | hx
        · obtain ⟨z, hz, rfl⟩ := List.mem_map.1 hx
          exact ⟨hpath z hz, hap' z hz⟩
        · obtain ⟨z, hz, rfl⟩ := List.mem_map.1 hx
          rw [hfl] at hz
          unfold flankM at hz
          have hf : Fine c.secs.length (barM c.secs.length ap (y :: rest)) (flankO c.secs c.jos (y :: rest) (barM c.secs.length ap (y :: rest), [])) := fine_O _ ⟨barM_length _ _ _, fun _ h => h, fun d hd => by cases hd⟩
          obtain ⟨q1, q2⟩ := hf.2.2 z hz
          exact ⟨q1, bar_ap _ _ _ q1 q2⟩

theorem meet_both (a b : List Int) : meetB a b = meetB b a := by
  unfold meetB
  rw [Bool.eq_iff_iff]
  simp only [List.any_eq_true, List.contains_iff_mem]
  exact ⟨fun ⟨x, h1, h2⟩ => ⟨x, h2, h1⟩, fun ⟨x, h1, h2⟩ => ⟨x, h2, h1⟩⟩
theorem meet_self {a : List Int} (h : a ≠ []) : meetB a a = true := by
  cases a with
  | nil => exact absurd rfl h
  | cons x r =>
    unfold meetB
    rw [List.any_eq_true]
    exact ⟨x, List.mem_cons_self, by simp⟩
theorem locks_some {r : Rt} (h : 1 ≤ r.path.length) : locksM r ≠ [] := by
  intro e
  have : (r.path[0]'(by omega)).sec ∈ locksM r := by
    unfold locksM
    rw [compact_mem, sortM_mem]
    unfold rawLocks
    exact List.mem_append_right _ (List.mem_append_left _ (List.mem_map_of_mem (List.getElem_mem _)))
  rw [e] at this
  cases this
theorem clash_both (C : Cm) (a b : Int) : clashM C a b = clashM C b a := meet_both _ _
end Go.Proofs.YtbjbkaphigolnaaGreatDoor
/- The walk of ConfWays: each route's path is the way of a train with the points as the path has them; nothing that it locks is its approach; conflicts go both ways round. -/
namespace Go.Proofs.YtbjbkaphigolnaaGreatDoor
open Go.RowKit

theorem conf_cells_ro {w : World} {b : Nat} {v0 v1 v2 v3 v4 v5 : Value} {t : TypeId} (h : Is w b t #[v0, v1, v2, v3, v4, v5]) : w.cell? ⟨b, 0, none⟩ = some v0 ∧ w.cell? ⟨b, 1, none⟩ = some v1 ∧ w.cell? ⟨b, 2, none⟩ = some v2 ∧ w.cell? ⟨b, 3, none⟩ = some v3 ∧ w.cell? ⟨b, 4, none⟩ = some v4 ∧ w.cell? ⟨b, 5, none⟩ = some v5 :=
  ⟨h.cell 0, h.cell 1, h.cell 2, h.cell 3, h.cell 4, h.cell 5⟩
theorem make_ints6 (n : Nat) (hn : n * 8 ≤ 140737488355328) (W : World) : (Instr.makeSlice 25 (.int .i64 (n : Int)) (.int .i64 (n : Int))).run Tryz.prog W = .ok (.slice (some ⟨W.heap.size, 0, none⟩) n n) (W.alloc (.cells ((List.replicate n (0 : Int)).map (Value.int .i64)).toArray 3)) := by
  obtain ⟨i0, hi0, hz0, hz1, hz2⟩ := info_parts Tryz.infoI6
  have h := run_make (P := Tryz.prog) W 25 3 i0 _ Tryz.underlying25 hi0 hz0 .i64 .i64 (n : Int) (n : Int) (by omega) (by omega) (by rw [hz2]; omega) (by omega)
  rw [h, hz1, Int.toNat_natCast]
  have e : madeCells (Value.int .i64 0).cells (n * 1) = ((List.replicate n (0 : Int)).map (Value.int .i64)).toArray := by
    apply Array.ext_getElem?
    intro i
    unfold madeCells
    by_cases hi : i < n
    · have e2 : i % 1 = 0 := Nat.mod_one i
      simp [Value.cells, hi, e2]
    · simp [hi]
  rw [e]
theorem rd_ints6 {w : World} {b : Nat} {t : TypeId} {o : List Int} (h : Is w b t (o.map (Value.int .i64)).toArray) : Rd w (some ⟨b, 0, none⟩) (o.map (Value.int .i64)) := fun _ =>
  ⟨b, 0, rfl, h.lt, fun j u hu => by rw [Nat.zero_add, h.cell j, List.getElem?_toArray]; exact hu⟩
/-- the head of a list in memory -/
theorem rd_head {w : World} {A : Option Addr} {l t : List St} (h : Rd w A (cellsT (l ++ t))) : Rd w A (cellsT l) := fun h0 => by
  have e : cellsT (l ++ t) = cellsT l ++ cellsT t := by
    unfold cellsT
    rw [List.flatMap_append]
  rw [e] at h
  obtain ⟨g, o, rfl, hb, hc⟩ := h (by rw [List.length_append]; omega)
  exact ⟨g, o, rfl, hb, fun j u hu => hc j u (by rw [List.getElem?_append_left (List.getElem?_eq_some_iff.1 hu).1]; exact hu)⟩

set_option maxRecDepth 100000 in
set_option maxHeartbeats 8000000 in
theorem ways_any6 (C : Cm) (w : World) (h : C.Ok w) (hR : Rds w) (hP : Pow w) :
    Calls Tryz.prog 6 #[C.val] w fun e w' => e = .returned (.bool true) ∧ Fr (fun _ => False) w w' := by
  have f0 := (Fr.refl (fun _ => False) w).alloc (.cells C.arr 30)
  have is0 : Is (w.alloc (.cells C.arr 30)) w.heap.size 30 C.arr := Is.new w _ _
  have KL := lives_any (w.alloc (.cells C.arr 30)) (hR.fr f0) (hP.fr f0)
  have KC := fun W (f : Fr (fun _ => False) w W) => chk_any C W (h.fr f)
  unfold Cm.val at KC ⊢
  unfold Cm.arr at f0 is0 KL KC ⊢
  go_enter Tryz.func6, Tryz.ntmps6
  go_wp2_with fail
  refine KL.mono ?_
  clear KL
  rintro _ w1 ⟨rfl, f1⟩
  have F1 := fr_nil f0 f1
  have is1 := is0.fr f1 id
  clear f0 is0 f1
  obtain ⟨p0, p1, p2, p3, p4, p5, p6, p7, p8⟩ := conf_cells is1
  go_wp2_with fail
  refine (KC _ F1).mono ?_
  rintro _ w2 ⟨rfl, f2⟩
  have F2 := fr_nil F1 f2
  have is2 := is1.fr f2 id
  clear F1 is1 f2 p0 p1 p2 p3 p4 p5 p6 p7 p8 KC
  obtain ⟨p0, p1, p2, p3, p4, p5, p6, p7, p8⟩ := conf_cells is2
  by_cases hc : checkE C.cf = 0
  rotate_left
  · have hb : (checkE C.cf != 0) = true := by simpa using hc
    go_wp2_with fail
    go_ret
    exact ⟨rfl, F2⟩
  have hb : (checkE C.cf != 0) = false := by simpa using hc
  have hr12 : C.rs.length ≤ 12 := by
    obtain ⟨_, _, _, h4, _, _⟩ := check_parts hc
    unfold Cm.cf at h4
    rw [List.length_map] at h4
    exact h4
  have hl16 : 1 ≤ C.l.length ∧ C.l.length ≤ 16 ∧ C.js.length ≤ 24 := by
    obtain ⟨h1, _⟩ := check_parts hc
    unfold checkB at h1
    simp only [Bool.and_eq_true] at h1
    exact sizes_short h1.1
  have hb6 : ∀ r ∈ C.rs, (r.over.length + (r.path.length + r.flank.length)) * 8 ≤ 140737488355328 := fun r hr => by
    obtain ⟨_, _, _, _, h5, _⟩ := check_parts hc
    obtain ⟨q1, q2, q3⟩ : r.flank.length ≤ 32 ∧ r.over.length ≤ 1 ∧ r.path.length ≤ 8 := right_short (routesE_zero h5 _ (List.mem_map_of_mem hr))
    omega
  have hRt : Hid (∀ r ∈ C.rs, Route C.l C.js C.sg r.rt) := Lib.hid fun r hr => route_right hc (List.mem_map_of_mem hr)
  have HB6 := Lib.hid hb6
  clear hc hb6 hR hP
  go_wp2_with fail
  clear p0 p1 p2 p3 p4 p5 p6 p7 p8 hb
  go_loopg [3, 4, 5, 6, 7, 8, 9, 11, 12, 13, 14, 16, 17, 26] C.rs.length (fun gi _ _ _ _ _ _ _ _ _ _ _ _ _ v26 wr => ∃ n : Nat, n ≤ C.rs.length ∧ gi = C.rs.length - n ∧ v26 = .int .i64 (n : Nat) ∧ Fr (fun _ => False) w2 wr)
  case atStart => exact ⟨0, Nat.zero_le _, rfl, rfl, Fr.refl _ _⟩
  case round =>
    obtain ⟨n, hn, rfl, rfl, f⟩ := hrel
    by_cases hlt : n < C.rs.length
    · have hsh := hRt.out _ (List.getElem_mem hlt)
      have hF := fr_nil F2 f
      have isC := is2.fr f id
      obtain ⟨ga, oa, hA5, q0, q1, q2, q3, q4, q5⟩ := rd_ro (h.rts.fr hF fun _ _ => id) hlt
      have hxo := h.each _ (List.getElem_mem hlt)
      have HGX : Hid (locksR C (n : Int) = locksM C.rs[n].rt) := Lib.hid (by unfold locksR; rw [isSecB_nat hlt, if_pos rfl, Int.toNat_natCast, rs_at hlt])
      generalize C.rs[n] = x at *
      obtain ⟨sig, ok, one, eight, sec, inn, hpath, hfol, hlk⟩ := hsh
      unfold Ro.rt at sig ok one eight sec inn hpath hfol
      dsimp only at sig ok one eight sec inn hpath hfol
      obtain ⟨e, he, hel⟩ := isSecB_true sig
      rw [he, sgAt_nat hel] at ok sec inn hfol
      have hlk : ∀ y ∈ locksM x.rt, isSecB C.l.length y = true ∧ y ≠ (sgAt C.sg x.entry).sec := hlk
      rw [he, sgAt_nat hel] at hlk
      obtain ⟨gs, og, hA3, s0, s1⟩ := rd_sg (h.sigs.fr hF fun _ _ => id) hel
      rw [he] at q0
      generalize C.sg[e] = g at *
      have KN := fun W (f : Fr (fun _ => False) w W) => next_any (c := C.c2) g.sec g.fin W (h.jos.fr f fun _ _ => id) (by have := h.b2; omega)
      rw [ok] at KN
      generalize nextS C.js g.sec g.fin = S at *
      generalize nextE C.js g.sec g.fin = E at *
      have j1 : (0 : Int) ≤ (n : Int) := by omega
      have j2 : (n : Int) < (C.rs.length : Int) := by omega
      have HA5 := Lib.hid hA5
      rw [hA5]
      clear hA5
      have HLK := Lib.hid hlk
      have HFOL := Lib.hid hfol
      have HSEC := Lib.hid sec
      have HINN := Lib.hid inn
      have HPATH := Lib.hid hpath
      clear hlk hfol sec inn hpath ok he sig
      go_upto_region 8 with (fail)
      have isr := Is.new wr 43 #[.int .i64 (e : Int), .int .i64 x.exit, .slice x.a1 x.path.length x.c1, .slice x.a2 x.flank.length x.c2, .slice x.a3 x.over.length x.c3, .bool x.shunt]
      have f8 := f.alloc (.cells #[.int .i64 (e : Int), .int .i64 x.exit, .slice x.a1 x.path.length x.c1, .slice x.a2 x.flank.length x.c2, .slice x.a3 x.over.length x.c3, .bool x.shunt] 43)
      have hrb : w2.heap.size ≤ wr.heap.size := f.size
      have hsg : ∀ O, (wr.alloc O).cell? ⟨gs, og + e * 2, none⟩ = some (.int .i64 g.sec) ∧ (wr.alloc O).cell? ⟨gs, og + e * 2 + 1, none⟩ = some (.int .i64 g.fin) := fun O =>
        ⟨by rw [World.cell?_alloc_some _ _ _ (by rw [s0]; rfl)]; exact s0, by rw [World.cell?_alloc_some _ _ _ (by rw [s1]; rfl)]; exact s1⟩
      obtain ⟨s0', s1'⟩ := hsg (.cells #[.int .i64 (e : Int), .int .i64 x.exit, .slice x.a1 x.path.length x.c1, .slice x.a2 x.flank.length x.c2, .slice x.a3 x.over.length x.c3, .bool x.shunt] 43)
      clear hsg
      clear q0 q1 q2 q3 q4 q5 s0 s1 isC hF f
      generalize wr.alloc _ = w8 at *
      generalize wr.heap.size = rb at *
      have isC := is2.fr f8 id
      obtain ⟨p0, p1, p2, p3, p4, p5, p6, p7, p8⟩ := conf_cells isC
      obtain ⟨r0, r1, r2, r3, r4, r5⟩ := conf_cells_ro isr
      rw [hA3] at p2
      clear hA3
      have j3 : (0 : Int) ≤ (e : Int) := by omega
      have j4 : (e : Int) < (C.sg.length : Int) := by omega
      go_upto_region 9 with (fail)
      have isx := Is.new w8 56 #[.int .i64 g.sec, .int .i64 g.fin]
      have isr9 := isr.alloc (.cells #[.int .i64 g.sec, .int .i64 g.fin] 56)
      have f9 := f8.alloc (.cells #[.int .i64 g.sec, .int .i64 g.fin] 56)
      clear p0 p1 p2 p3 p4 p5 p6 p7 p8 r0 r1 r2 r3 r4 r5 s0' s1' isC f8 isr
      generalize w8.alloc _ = w9 at *
      generalize w8.heap.size = xb at *
      have isC := is2.fr f9 id
      obtain ⟨p0, p1, p2, p3, p4, p5, p6, p7, p8⟩ := conf_cells isC
      have x0 : w9.cell? ⟨xb, 0, none⟩ = some (.int .i64 g.sec) := isx.cell 0
      have x1 : w9.cell? ⟨xb, 1, none⟩ = some (.int .i64 g.fin) := isx.cell 1
      have r2 : w9.cell? ⟨rb, 2, none⟩ = some (.slice x.a1 x.path.length x.c1) := isr9.cell 2
      go_wp2_with fail
      refine (KN _ (fr_nil F2 f9)).mono ?_
      clear KN p0 p1 p2 p3 p4 p5 p6 p7 p8 x0 x1 r2 isC
      rintro _ wA ⟨rfl, fA⟩
      have isxA := isx.fr fA id
      have isrA := isr9.fr fA id
      have FA := fr_nil f9 fA
      clear isx isr9 f9 fA
      have r2 : wA.cell? ⟨rb, 2, none⟩ = some (.slice x.a1 x.path.length x.c1) := isrA.cell 2
      have h1 : 0 < x.path.length := one
      obtain ⟨gp, op, hAP, t0, t1, t2⟩ := rd_st (hxo.path.fr (fr_nil F2 FA) fun _ _ => id) h1
      have hsec0 : x.path[0].sec = S := by rw [← HSEC.out, List.getD_eq_getElem?_getD, List.getElem?_eq_getElem h1]; rfl
      have hinn0 : x.path[0].inn = E := by rw [← HINN.out, List.getD_eq_getElem?_getD, List.getElem?_eq_getElem h1]; rfl
      rw [hsec0] at t0
      rw [hinn0] at t1
      clear hsec0 hinn0 HSEC HINN
      have hb1 : ((x.path.length : Int) == 0) = false := by rw [beq_eq_false_iff_ne]; omega
      have hb2 : (S != S) = false := by simp
      have hb3 : (E != E) = false := by simp
      have i1 : (0 : Int) < (x.path.length : Int) := by omega
      rw [hAP] at r2
      simp only [Nat.zero_mul, Nat.add_zero] at t0 t1 t2
      have i0 : (0 : Int) ≤ 0 := by omega
      go_upto_region 12 with (fail)
      clear r2 t0 t1 t2 hb1 hb2 hb3 i0 i1
      have isC := is2.fr FA id
      have p0 : wA.cell? ⟨w.heap.size, 0, none⟩ = some (.slice C.A1 C.l.length C.c1) := isC.cell 0
      have hmk := make_ints6 C.l.length (by omega)
      have isP := Is.new wA 3 ((List.replicate C.l.length (0 : Int)).map (Value.int .i64)).toArray
      have fM := (Fr.refl (fun _ => False) wA).alloc (.cells ((List.replicate C.l.length (0 : Int)).map (Value.int .i64)).toArray 3)
      generalize hcs : ((List.replicate C.l.length (0 : Int)).map (Value.int .i64)).toArray = cs at hmk isP fM
      have HC := Lib.hid hcs
      clear hcs
      go_upto_region 13 with (fail)
      clear hmk p0 isC
      have hpw : w2.heap.size ≤ wA.heap.size := FA.size
      generalize wA.alloc (.cells cs 3) = wM at *
      have isrM := isrA.fr fM id
      have r2 : wM.cell? ⟨rb, 2, none⟩ = some (.slice x.a1 x.path.length x.c1) := isrM.cell 2
      generalize hpb : wA.heap.size = pb at *
      have HPB := Lib.hid hpb
      clear hpb isrM
      rw [← HC.out] at isP
      clear HC
      go_wp2_with fail
      clear r2
      go_loopg [11, 12, 13, 81] x.path.length (fun gi _ _ _ v81 wr => ∃ k : Nat, k ≤ x.path.length ∧ gi = x.path.length - k ∧ v81 = .int .i64 (k : Nat) ∧ Is wr pb 3 ((posL C.l (x.path.take k) (List.replicate C.l.length 0)).map (Value.int .i64)).toArray ∧ Fr (fun _ => False) wA wr)
      case atStart => exact ⟨0, Nat.zero_le _, rfl, rfl, isP, fM⟩
      case round =>
        clear isP fM
        obtain ⟨k, hk, rfl, rfl, isP, fM⟩ := hrel
        by_cases hkl : k < x.path.length
        · have hF2 := fr_nil F2 (fr_nil FA fM)
          obtain ⟨gq, oq, hAQ, t0, t1, t2⟩ := rd_st (hxo.path.fr hF2 fun _ _ => id) hkl
          obtain ⟨m, hm, hml⟩ := isSecB_true (HPATH.out _ (List.getElem_mem hkl))
          have hpos := posL_take C.l x.path (List.replicate C.l.length 0) hkl
          obtain ⟨gz, oz, hA1, z0, _, _⟩ := rd_sec (h.secs.fr hF2 fun _ _ => id) hml
          rw [← kindOf_at hml] at z0
          have HA1 := Lib.hid hA1
          clear hA1
          unfold posF at hpos
          rw [hm] at hpos t0
          rw [Int.toNat_natCast] at hpos
          have KP := fun W => pos_any (kindOf C.l m) x.path[k].inn x.path[k].out W
          generalize hpo : posOut (kindOf C.l m) x.path[k].inn x.path[k].out = po at *
          generalize hpk : posOk (kindOf C.l m) x.path[k].inn x.path[k].out = pk at *
          clear hpo hpk
          generalize kindOf C.l m = kd at *
          generalize hy : x.path[k] = y at *
          clear hy
          have j5 : (0 : Int) ≤ (m : Int) := by omega
          have j6 : (m : Int) < (C.l.length : Int) := by omega
          have j7 : (0 : Int) ≤ (k : Int) := by omega
          have j8 : (k : Int) < (x.path.length : Int) := by omega
          have HPOS := Lib.hid hpos
          clear hpos hm
          rw [hAP] at hAQ
          injection hAQ with hAQ
          injection hAQ with e1 e2
          subst e1 e2
          go_upto_region 16 with (fail)
          have ist := Is.new wr 45 #[.int .i64 (m : Int), .int .i64 y.inn, .int .i64 y.out]
          have isP5 := isP.alloc (.cells #[.int .i64 (m : Int), .int .i64 y.inn, .int .i64 y.out] 45)
          have f5 := (Fr.refl (fun _ => False) wr).alloc (.cells #[.int .i64 (m : Int), .int .i64 y.inn, .int .i64 y.out] 45)
          have hz0 := (f5.cell (p := ⟨gz, oz + m * 3, none⟩) (World.block_lt_of_cell? _ _ z0) id).trans z0
          have fM5 := fr_nil fM f5
          clear t0 t1 t2 z0 isP fM f5 hF2
          generalize wr.alloc _ = w5 at *
          generalize wr.heap.size = tb at *
          have isC5 := is2.fr (fr_nil FA fM5) id
          have HS5 : Hid (∀ W, Fr (fun _ => False) w5 W → W.cell? ⟨w.heap.size, 0, none⟩ = some (.slice C.A1 C.l.length C.c1) ∧ W.cell? ⟨tb, 0, none⟩ = some (.int .i64 (m : Int)) ∧ W.cell? ⟨tb, 1, none⟩ = some (.int .i64 y.inn) ∧ W.cell? ⟨tb, 2, none⟩ = some (.int .i64 y.out) ∧ W.cell? ⟨gz, oz + m * 3, none⟩ = some (.int .i64 kd)) := Lib.hid fun W fw =>
            ⟨(isC5.fr fw id).cell 0, (ist.fr fw id).cell 0, (ist.fr fw id).cell 1, (ist.fr fw id).cell 2, (fw.cell (p := ⟨gz, oz + m * 3, none⟩) (World.block_lt_of_cell? _ _ hz0) id).trans hz0⟩
          clear isC5 hz0
          rw [HA1.out] at HS5
          have HG0 := Lib.hid (Fr.refl (fun _ => False) w5).drew
          have s0 := HS5.out _ HG0.out
          go_region_held3 (fun Wx => Wx.cell? ⟨w.heap.size, 0, none⟩ = some (.slice (some ⟨gz, oz, none⟩) C.l.length C.c1) ∧ Wx.cell? ⟨tb, 0, none⟩ = some (.int .i64 (m : Int)) ∧ Wx.cell? ⟨tb, 1, none⟩ = some (.int .i64 y.inn) ∧ Wx.cell? ⟨tb, 2, none⟩ = some (.int .i64 y.out) ∧ Wx.cell? ⟨gz, oz + m * 3, none⟩ = some (.int .i64 kd)) (first | with_reducible exact s0 | with_reducible exact s1) (first | (go_at_call 32; (with_reducible refine (KP _).mono ?_); rintro _ w6 ⟨rfl, f6⟩; have HG1 := Lib.hid (fr_nil HG0.out f6); have s1 := HS5.out _ HG1.out; clear f6))
          clear s0 s1 KP
          have fM6 := fr_nil fM5 HG1.out
          have isP6 := isP5.fr HG1.out id
          have ist6 := ist.fr HG1.out id
          have v0 := ist6.cell 0
          have pz := isP6.frozen m
          have pc := isP6.cell m
          have hpl : m < (posL C.l (x.path.take k) (List.replicate C.l.length 0)).length := by rw [posL_length, List.length_replicate]; exact hml
          rw [List.getElem?_toArray, List.getElem?_map, List.getElem?_eq_getElem hpl] at pc
          simp only [List.getElem?_toArray, List.getElem?_cons_zero, Option.map_some] at v0 pc
          clear HS5 HG0 HG1 isP5 fM5 ist
          go_wp2_with fail
          have isP7 := isP6.set m (.int .i64 po)
          rw [List.setIfInBounds_toArray, ← List.map_set, ← HPOS.out] at isP7
          have fM7 := fM6.setCell (p := ⟨pb, m, none⟩) (.inr (by rw [HPB.out]; exact Nat.le_refl _)) (.int .i64 po)
          go_roundg (x.path.length - (k + 1))
          case measure => omega
          case rel => exact ⟨k + 1, by omega, rfl, by go_num, isP7, fM7⟩
        · obtain rfl : k = x.path.length := by omega
          rw [List.take_length] at isP
          have hpl : (posL C.l x.path (List.replicate C.l.length 0)).length = C.l.length := by rw [posL_length, List.length_replicate]
          obtain ⟨tt, hfol⟩ := HFOL.out
          generalize posL C.l x.path (List.replicate C.l.length 0) = ps at *
          have hF2 := fr_nil F2 (fr_nil FA fM)
          have KF := follow_any (c1 := C.c1) (c2 := C.c2) (c3 := C.l.length) (l := C.l) (js := C.js) (p := ps) S E wr (h.secs.fr hF2 fun _ _ => id) (h.jos.fr hF2 fun _ _ => id) (rd_ints6 isP) (by omega) (by omega) (by omega)
          rw [hfol, hpl] at KF
          have isC := is2.fr (fr_nil FA fM) id
          have p0 : wr.cell? ⟨w.heap.size, 0, none⟩ = some (.slice C.A1 C.l.length C.c1) := isC.cell 0
          have p1 : wr.cell? ⟨w.heap.size, 1, none⟩ = some (.slice C.A2 C.js.length C.c2) := isC.cell 1
          clear hfol hpl hF2 isC isP HFOL hk HPATH
          go_wp2_with fail
          refine KF.mono ?_
          clear KF p0 p1
          rintro _ wF ⟨AF, cF, rfl, ownF, fF⟩
          have FF := fr_nil (fr_nil FA fM) fF
          have isrF := isrA.fr (fr_nil fM fF) id
          have isxF := isxA.fr (fr_nil fM fF) id
          obtain ⟨AF', cF', eF, hcF, hcM, hAF, _⟩ := wide_form ownF
          injection eF with e1 _ e2
          subst e1 e2
          have hpt : x.path.length ≤ (x.path ++ tt).length := by rw [List.length_append]; omega
          obtain ⟨gF, rfl, hgF⟩ := hAF (by omega)
          have rdF := rd_head (wide_rd ownF)
          have KS : Hid (∀ W, Fr (fun _ => False) wF W → Calls Tryz.prog 26 #[.slice (some ⟨gF, 0, none⟩) x.path.length cF, .slice (some ⟨gp, op, none⟩) x.path.length x.c1] W fun e w' => e = .returned (.bool true) ∧ Fr (fun _ => False) W w') := Lib.hid fun W fw => by
            have hq := hxo.path.fr (fr_nil F2 (fr_nil FF fw)) fun _ _ => id
            rw [hAP] at hq
            exact samesteps_any (rdF.fr fw fun _ _ => id) hq (by omega)
          have hd2 : decide ((x.path ++ tt).length < x.path.length) = false := by rw [decide_eq_false_iff_not]; omega
          have hd : decide (((x.path ++ tt).length : Int) < (x.path.length : Int)) = false := by rw [decide_eq_false_iff_not]; omega
          have r2 := isrF.cell 2
          simp only [List.getElem?_toArray, List.getElem?_cons_zero, List.getElem?_cons_succ] at r2
          rw [hAP] at r2
          have HR2 : Hid (∀ W, Fr (fun _ => False) wF W → W.cell? ⟨rb, 2, none⟩ = some (.slice (some ⟨gp, op, none⟩) x.path.length x.c1)) := Lib.hid fun W fw => by
            have := (isrF.fr fw id).cell 2
            simp only [List.getElem?_toArray, List.getElem?_cons_zero, List.getElem?_cons_succ] at this
            rw [hAP] at this
            exact this
          clear r2 ownF rdF isrA isrF isxA fF hgF hAF fM FA
          have i1 : (0 : Int) ≤ (x.path.length : Int) := by omega
          have i2 : (x.path.length : Int) ≤ (cF : Int) := by omega
          generalize (x.path ++ tt).length = LF at *
          go_upto_region 20 with (fail)
          have HG0 := Lib.hid (Fr.refl (fun _ => False) wF).drew
          have s0 := HR2.out _ HG0.out
          go_region_held3 (fun Wx => Wx.cell? ⟨rb, 2, none⟩ = some (.slice (some ⟨gp, op, none⟩) x.path.length x.c1)) (first | with_reducible exact s0 | with_reducible exact s1) (first | (go_at_call 26; (with_reducible refine (KS.out _ HG0.out).mono ?_); rintro _ w6 ⟨rfl, f6⟩; have HG1 := Lib.hid (fr_nil HG0.out f6); have s1 := HR2.out _ HG1.out; clear f6))
          clear s0 s1 KS HR2
          have FG := fr_nil FF HG1.out
          have isxG := isxF.fr HG1.out id
          have isC := is2.fr FG id
          obtain ⟨p0, p1, p2, p3, p4, p5, p6, p7, p8⟩ := conf_cells isC
          have KLk := locks_any C (n : Int) _ (h.fr (fr_nil F2 FG)) HB6.out
          have hll := locksR_short C (n : Int) HB6.out
          rw [HGX.out] at KLk hll
          unfold Cm.val Cm.arr at KLk
          clear FF isxF HG0 HG1 isC hd hd2 i1 i2
          go_wp2_with fail
          refine KLk.mono ?_
          clear KLk p0 p1 p2 p3 p4 p5 p6 p7 p8
          rintro _ wL ⟨AL, cL, rfl, ownL, fL⟩
          have FL := fr_nil FG fL
          have isxL := isxG.fr fL id
          have rdL := wide_rd ownL
          clear FG isxG fL ownL
          have hcl : clashM C (n : Int) (n : Int) = true := by
            unfold clashM
            rw [HGX.out]
            exact meet_self (locks_some (r := x.rt) one)
          have HCL := Lib.hid hcl
          clear hcl HGX
          generalize locksM x.rt = L at *
          go_wp2_with fail
          go_loopg [16, 135] L.length (fun gi _ v135 wr => ∃ k : Nat, k ≤ L.length ∧ gi = L.length - k ∧ v135 = .int .i64 (k : Nat) ∧ Fr (fun _ => False) wL wr)
          case atStart => exact ⟨0, Nat.zero_le _, rfl, rfl, Fr.refl _ _⟩
          case round =>
            obtain ⟨k, hk, rfl, rfl, f⟩ := hrel
            by_cases hkl : k < L.length
            · obtain ⟨gl, ol, rfl, q0⟩ := rd_int (rdL.fr f fun _ _ => id) hkl
              obtain ⟨hy1, hy2⟩ := HLK.out _ (List.getElem_mem hkl)
              obtain ⟨m, hm, hml⟩ := isSecB_true hy1
              rw [hm] at q0 hy2
              have e1 : ((m : Int) == g.sec) = false := by rw [beq_eq_false_iff_ne]; exact hy2
              have e2 : decide ((m : Int) < 0) = false := by rw [decide_eq_false_iff_not]; omega
              have e3 : decide ((C.l.length : Int) ≤ (m : Int)) = false := by rw [decide_eq_false_iff_not]; omega
              have e4 : decide (C.l.length ≤ m) = false := by rw [decide_eq_false_iff_not]; omega
              have x0 := (isxL.fr f id).cell 0
              simp only [List.getElem?_toArray, List.getElem?_cons_zero] at x0
              have p0 : wr.cell? ⟨w.heap.size, 0, none⟩ = some (.slice C.A1 C.l.length C.c1) := (is2.fr (fr_nil FL f) id).cell 0
              clear hm hy1 hy2
              go_wp2_with fail
              go_roundg (L.length - (k + 1))
              case measure => omega
              case rel => exact ⟨k + 1, by omega, rfl, by go_num, f⟩
            · have FW := fr_nil FL f
              have isC := is2.fr FW id
              have p4 : wr.cell? ⟨w.heap.size, 4, none⟩ = some (.slice C.A5 C.rs.length C.c5) := isC.cell 4
              clear f FL isxL rdL HLK
              go_wp2_with fail
              clear p4 isC
              go_loopg [17, 158] C.rs.length (fun gi _ v158 wx => ∃ k : Nat, k ≤ C.rs.length ∧ gi = C.rs.length - k ∧ v158 = .int .i64 (k : Nat) ∧ Fr (fun _ => False) w2 wx)
              case atStart => exact ⟨0, Nat.zero_le _, rfl, rfl, FW⟩
              case round =>
                clear FW
                obtain ⟨k, hk, rfl, rfl, f⟩ := hrel
                by_cases hkl : k < C.rs.length
                · go_upto_region 31 with (fail)
                  have KX : Hid (∀ W, Fr (fun _ => False) wr W → (Calls Tryz.prog 16 #[.agg #[.slice C.A1 C.l.length C.c1, .slice C.A2 C.js.length C.c2, .slice C.A3 C.sg.length C.c3, .slice C.A4 C.cr.length C.c4, .slice C.A5 C.rs.length C.c5, .int .i64 C.tm.age, .int .i64 C.tm.brake, .int .i64 C.tm.hold, .int .i64 C.tm.budget], .int .i64 (n : Int), .int .i64 (k : Int)] W fun e w' => e = .returned (.bool (clashM C (n : Int) (k : Int))) ∧ Fr (fun _ => False) W w') ∧ (Calls Tryz.prog 16 #[.agg #[.slice C.A1 C.l.length C.c1, .slice C.A2 C.js.length C.c2, .slice C.A3 C.sg.length C.c3, .slice C.A4 C.cr.length C.c4, .slice C.A5 C.rs.length C.c5, .int .i64 C.tm.age, .int .i64 C.tm.brake, .int .i64 C.tm.hold, .int .i64 C.tm.budget], .int .i64 (k : Int), .int .i64 (n : Int)] W fun e w' => e = .returned (.bool (clashM C (n : Int) (k : Int))) ∧ Fr (fun _ => False) W w') ∧ (Calls Tryz.prog 16 #[.agg #[.slice C.A1 C.l.length C.c1, .slice C.A2 C.js.length C.c2, .slice C.A3 C.sg.length C.c3, .slice C.A4 C.cr.length C.c4, .slice C.A5 C.rs.length C.c5, .int .i64 C.tm.age, .int .i64 C.tm.brake, .int .i64 C.tm.hold, .int .i64 C.tm.budget], .int .i64 (n : Int), .int .i64 (n : Int)] W fun e w' => e = .returned (.bool true) ∧ Fr (fun _ => False) W w')) := Lib.hid fun W fw => by
                    have hCw := h.fr (fr_nil F2 (fr_nil f fw))
                    have k1 := clash_any C n k W hCw HB6.out
                    have k2 := clash_any C k n W hCw HB6.out
                    have k3 := clash_any C n n W hCw HB6.out
                    rw [clash_both C k n] at k2
                    rw [HCL.out] at k3
                    exact ⟨k1, k2, k3⟩
                  have HS : Hid (∀ W, Fr (fun _ => False) wr W → W.cell? ⟨w.heap.size, 0, none⟩ = some (.slice C.A1 C.l.length C.c1) ∧ W.cell? ⟨w.heap.size, 1, none⟩ = some (.slice C.A2 C.js.length C.c2) ∧ W.cell? ⟨w.heap.size, 2, none⟩ = some (.slice C.A3 C.sg.length C.c3) ∧ W.cell? ⟨w.heap.size, 3, none⟩ = some (.slice C.A4 C.cr.length C.c4) ∧ W.cell? ⟨w.heap.size, 4, none⟩ = some (.slice C.A5 C.rs.length C.c5) ∧ W.cell? ⟨w.heap.size, 5, none⟩ = some (.int .i64 C.tm.age) ∧ W.cell? ⟨w.heap.size, 6, none⟩ = some (.int .i64 C.tm.brake) ∧ W.cell? ⟨w.heap.size, 7, none⟩ = some (.int .i64 C.tm.hold) ∧ W.cell? ⟨w.heap.size, 8, none⟩ = some (.int .i64 C.tm.budget)) := Lib.hid fun W fw => conf_cells (is2.fr (fr_nil f fw) id)
                  generalize clashM C (n : Int) (k : Int) = b at *
                  have hbb : (b != b) = false := by simp
                  have HG0 := Lib.hid (Fr.refl (fun _ => False) wr).drew
                  have s0 := HS.out _ HG0.out
                  go_region_held3 (fun Wx => Wx.cell? ⟨w.heap.size, 0, none⟩ = some (.slice C.A1 C.l.length C.c1) ∧ Wx.cell? ⟨w.heap.size, 1, none⟩ = some (.slice C.A2 C.js.length C.c2) ∧ Wx.cell? ⟨w.heap.size, 2, none⟩ = some (.slice C.A3 C.sg.length C.c3) ∧ Wx.cell? ⟨w.heap.size, 3, none⟩ = some (.slice C.A4 C.cr.length C.c4) ∧ Wx.cell? ⟨w.heap.size, 4, none⟩ = some (.slice C.A5 C.rs.length C.c5) ∧ Wx.cell? ⟨w.heap.size, 5, none⟩ = some (.int .i64 C.tm.age) ∧ Wx.cell? ⟨w.heap.size, 6, none⟩ = some (.int .i64 C.tm.brake) ∧ Wx.cell? ⟨w.heap.size, 7, none⟩ = some (.int .i64 C.tm.hold) ∧ Wx.cell? ⟨w.heap.size, 8, none⟩ = some (.int .i64 C.tm.budget)) (first | with_reducible exact s0 | with_reducible exact s1 | with_reducible exact s2 | with_reducible exact s3) (first | (go_at_call 16; (first | with_reducible refine (KX.out _ HG2.out).1.mono ?_ | with_reducible refine (KX.out _ HG2.out).2.1.mono ?_ | with_reducible refine (KX.out _ HG2.out).2.2.mono ?_); rintro _ w9 ⟨rfl, f9⟩; have HG3 := Lib.hid (fr_nil HG2.out f9); have s3 := HS.out _ HG3.out; clear f9) | (go_at_call 16; (first | with_reducible refine (KX.out _ HG1.out).1.mono ?_ | with_reducible refine (KX.out _ HG1.out).2.1.mono ?_ | with_reducible refine (KX.out _ HG1.out).2.2.mono ?_); rintro _ w9 ⟨rfl, f9⟩; have HG2 := Lib.hid (fr_nil HG1.out f9); have s2 := HS.out _ HG2.out; clear f9) | (go_at_call 16; (first | with_reducible refine (KX.out _ HG0.out).1.mono ?_ | with_reducible refine (KX.out _ HG0.out).2.1.mono ?_ | with_reducible refine (KX.out _ HG0.out).2.2.mono ?_); rintro _ w9 ⟨rfl, f9⟩; have HG1 := Lib.hid (fr_nil HG0.out f9); have s1 := HS.out _ HG1.out; clear f9))
                  all_goals
                    have f3 := fr_nil f HG3.out
                    clear s0 s1 s2 s3 HG0 HG1 HG2 HG3
                    go_wp2_with fail
                    go_roundg (C.rs.length - (k + 1))
                    case measure => omega
                    case rel => exact ⟨k + 1, by omega, rfl, by go_num, f3⟩
                · rw [← HA5.out]
                  go_wp2_with fail
                  go_roundg (C.rs.length - (n + 1))
                  case measure => omega
                  case rel => exact ⟨n + 1, by omega, rfl, by go_num, f⟩
    · have F := fr_nil F2 f
      clear f
      go_wp2_with fail
      go_ret
      exact ⟨rfl, F⟩
end Go.Proofs.YtbjbkaphigolnaaGreatDoor
/- ConfWays (P6.2): in a right station each route's path is the way of a train that passes the entry signal with the points as the path has them, nothing that it locks is its approach, and conflicts go both ways round; for every configuration. The package-level variables that its row lists hold what the program's text lays (the card ties that); no other condition. -/
namespace Go.Proofs.YtbjbkaphigolnaaGreatDoor.confWays
open Go.ChangeShapes Go.WideShapes Go.ChangeAt Go.RowKit Go.Lib
open Go.ChangeMaps (open_string shut_string)

def wA : Array Value := #[.agg zeroCf]
theorem met (os : Os) : laidMet Tryz.prog Rows.confWaysRow.laid ((laidWorld os).forCall (fun _ _ => 0) ⟨#[], wA, []⟩).memory := laid_met os
theorem witness_row (os : Os) {H : Type} (enc : TypeId × Value → H) :
    (OpenSpec.ofChange Rows.confWaysSpec).preRow enc Tryz.prog Tryz.f6 Rows.confWaysRow.domain false Rows.confWaysRow.laid ((laidWorld os).forCall (fun _ _ => 0) ⟨#[], wA, []⟩).memory wA := by
  have hw : (DataW.whole enc Tryz.prog ((laidWorld os).forCall (fun _ _ => 0) ⟨#[], wA, []⟩).memory Tryz.f6.params.toList Rows.confWaysSpec.vars false wA.toList 8).map (fun x => (x.1, x.2.1)) =
      some ([.agg [.nil, .nil, .nil, .nil, .nil, .agg [.lit (.int .i64 0), .lit (.int .i64 0), .lit (.int .i64 0), .lit (.int .i64 0)]]], []) := by kernel_rfl
  obtain ⟨⟨x1, x2, x3⟩, hx, hx1⟩ := Option.map_eq_some_iff.1 hw
  simp only [Prod.mk.injEq] at hx1
  obtain ⟨rfl, rfl⟩ := hx1
  exact OpenSpec.preRow_of_cond 8 hx (by kernel_rfl) (fun k hk => by cases hk) (by kernel_rfl) (met os)

set_option maxRecDepth 100000 in
theorem lifted (os : Os) (started : os.Started) (H : Type) (enc : TypeId × Value → H) (F : Stop.Interp) :
    ReturnsInHanded {} Tryz.checked os 6 .any ((OpenSpec.ofChange Rows.confWaysSpec).preRow enc Tryz.prog Tryz.f6 Rows.confWaysRow.domain false Rows.confWaysRow.laid) (((OpenSpec.ofChange Rows.confWaysSpec).at F).post enc Tryz.prog Tryz.f6 false true false false) := by
  refine returnsInHanded_of_row (C := Tryz.checked) (s := OpenSpec.ofChange Rows.confWaysSpec) Tryz.own started (by kernel_rfl) Tryz.func6
    (witness_row_atRef (enc := enc) (C := Tryz.checked) false (laidWorld os) wA rfl (by kernel_rfl) (by kernel_rfl) (by kernel_rfl) (witness_row os enc)) ?_
  intro W base args ds gs before hval0 hW _ hcond hsz0 hL hsh _
  have hval : ∀ (j : Nat) t v, Tryz.f6.params[j]? = some t → args[j]? = some v → Value.okWide Tryz.prog W .any base t v := hval0
  have hsz : (DataW.weightsEach Tryz.prog (Tryz.f6.params.toList ++ (OpenSpec.ofChange Rows.confWaysSpec).bare.plain.varTypes Tryz.prog) (ds ++ gs)).all (· ≤ reachBytes) = true := hsz0
  have hW' := hW
  obtain ⟨p, q, hA0, hV, rfl, hfz, hnd⟩ := hW
  have hA : DataW.TrodAll enc Tryz.prog W 0 (fun _ => true) true Tryz.f6.params.toList args.toList ds p := hA0
  rw [Tryz.params6] at hA hval hsz
  obtain ⟨v0, d0, rfl, rfl, h0⟩ := trodAll_one hA
  obtain ⟨rfl, rfl⟩ := trodVars_none hV
  obtain ⟨C, rfl, hin⟩ := open_conf (hval 0 30 v0 rfl rfl) h0
  have hok : C.Ok W := conf_ok hin hsz (j := 0) rfl rfl
  refine (ways_any6 C W hok (laid_rds hL hsh) (laid_pow hL)).mono fun e W' ⟨he, hb⟩ => ?_
  subst he
  exact law_post hW' rfl (by kernel_rfl) (by rw [Tryz.params6]; exact of_decide_eq_true (by kernel_rfl)) rfl rfl rfl hb.toBelow0

theorem said : Rows.ConfWaysSaid :=
  OpenClaim.holds_of_cond 6 Tryz.f6 rfl rfl rfl rfl rfl rfl rfl ⟨rfl, rfl, rfl, rfl, rfl⟩ rfl rfl rfl rfl rfl (by kernel_rfl) Tryz.func6 (by kernel_rfl)
    (of_decide_eq_true (by kernel_rfl)) (by unfold Func.isWrapper; first | (rw [if_pos (by decide +kernel)]; kernel_rfl) | (rw [if_neg (by decide +kernel)]; exact ⟨rfl, rfl⟩))
    (fun os started H enc _ F => by rw [OpenClaim.pre_eq_preRow]; exact lifted os started H enc F)

/-- No parameter wants a stand-in: what the card asks. -/
theorem plain (f : FuncId) (fn : Func) (hf : Tryz.pinned.checked.prog.funcNamed "ballast/ballastlaw06.ConfWays" = some f) (hfn : Tryz.pinned.checked.prog.funcs[f]? = some fn) :
    true = Tryz.pinned.checked.prog.looks [] ∧ ∀ (j : Nat) t, fn.params[j]? = some t → Tryz.pinned.checked.prog.wantsStandIn t = false := by
  obtain rfl : f = 6 := Option.some.inj ((show Tryz.prog.funcNamed "ballast/ballastlaw06.ConfWays" = some 6 by kernel_rfl).symm.trans hf) |>.symm
  obtain rfl : fn = Tryz.f6 := (Option.some.inj (Tryz.func6.symm.trans hfn)).symm
  refine ⟨by kernel_rfl, fun j t ht => ?_⟩
  rw [Tryz.params6] at ht
  have hm := Array.mem_of_getElem? ht
  simp only [List.mem_toArray, List.mem_cons, List.not_mem_nil, or_false] at hm
  subst hm
  exact (show Tryz.prog.wantsStandIn 30 = false by kernel_rfl)

theorem proved : Rows.ConfWaysCardSaid :=
  Claim7.holds_tied_plain_at .later [] _ _ _ _ said (fun _ h => by cases h) (by kernel_rfl) (fun _ h => by cases h) confWays_row_tie rfl ⟨rfl, rfl⟩ (by kernel_rfl) rfl plain (by kernel_rfl)
end Go.Proofs.YtbjbkaphigolnaaGreatDoor.confWays

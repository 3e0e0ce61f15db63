/- Plain: a state that fits, taken apart; what the calls keep of it. -/
import Derived.Test.YtnnacdkijeoeoaaLp
import Derived.Test.YtnnacdkijeoeoaaLsta
import Derived.Test.YtnnacdkijeoeoaaKj
import Derived.Test.YtnnacdkijeoeoaaKn
namespace Go.Proofs.Ytnnacdkijeoeoaa.Lk

/-- a state that fits, thing by thing -/
structure FitP (c : Cf) (k : Kp) : Prop where
  chk : checkE c = 0
  l1 : k.own.length = c.secs.length
  l2 : k.rts.length = c.rts.length
  l3 : k.pts.length = c.secs.length
  l4 : k.crs.length = c.crs.length
  l5 : k.lns.length = 4
  l6 : k.rss.length = c.secs.length
  own : ∀ o ∈ k.own, inB (-2) c.rts.length o = true
  rts : ∀ j (h : j < c.rts.length) (h' : j < k.rts.length), rsB c.rts[j] k.rts[j] = true
  pts : ∀ m ∈ k.pts, moB m = true
  crs : ∀ m ∈ k.crs, moB m = true
  lns : ∀ l ∈ k.lns, lnB l = true
  rss : ∀ n ∈ k.rss, inB 0 4294967296 n = true
theorem rtsB_iff : ∀ (r : List Rt) (s : List Rs), rtsB r s = true ↔ ∀ j (h : j < r.length) (h' : j < s.length), rsB r[j] s[j] = true
  | [], s => by simp [rtsB]
  | x :: r, [] => by simp [rtsB]
  | x :: r, y :: s => by
    have ih := rtsB_iff r s
    rw [rtsB, Bool.and_eq_true, ih]
    constructor
    · rintro ⟨a, b⟩ j h h'
      cases j with
      | zero => exact a
      | succ j => exact b j (by simpa using h) (by simpa using h')
    · intro h
      refine ⟨h 0 (by simp) (by simp), fun j h1 h2 => ?_⟩
      have := h (j + 1) (by simpa using h1) (by simpa using h2)
      simpa using this
theorem fits_iff {c : Cf} {k : Kp} : fitsB c k = true ↔ FitP c k := by
  unfold fitsB suitsB lensB
  simp only [Bool.and_eq_true, decide_eq_true_eq, List.all_eq_true, rtsB_iff]
  constructor
  · rintro ⟨h, ⟨l1, l2, l3, l4, l5, l6⟩, o, r, p, x, l, s⟩
    exact ⟨h, l1, l2, l3, l4, l5, l6, o, r, p, x, l, s⟩
  · intro h
    exact ⟨h.chk, ⟨h.l1, h.l2, h.l3, h.l4, h.l5, h.l6⟩, h.own, h.rts, h.pts, h.crs, h.lns, h.rss⟩
theorem tm_iff {n : Int} : tmB n = true ↔ 0 ≤ n ∧ n ≤ 4294967295 := inB_iff
theorem moB_iff {m : Mo} : moB m = true ↔ (0 ≤ m.cmd ∧ m.cmd ≤ 2) ∧ -1 ≤ m.oth ∧ m.oth ≤ 4294967295 := by
  unfold moB
  rw [Bool.and_eq_true, inB_iff, inB_iff]
theorem rsB_iff {r : Rt} {s : Rs} : rsB r s = true ↔ (0 ≤ s.st ∧ s.st ≤ 5) ∧ (0 ≤ s.nxt ∧ s.nxt ≤ r.path.length) ∧ (0 ≤ s.since ∧ s.since ≤ 4294967295) ∧ 0 ≤ s.mark ∧ s.mark ≤ 4294967295 := by
  unfold rsB
  rw [Bool.and_eq_true, Bool.and_eq_true, Bool.and_eq_true, inB_iff, inB_iff, tm_iff, tm_iff]
theorem new_fit {c : Cf} (h : checkE c = 0) {now : Int} (hn : tmB now = true) : FitP c (newM c now) := by
  have hn := tm_iff.1 hn
  refine ⟨h, by simp [newM], by simp [newM], by simp [newM], by simp [newM], rfl, by simp [newM], ?_, ?_, ?_, ?_, ?_, ?_⟩
  · intro o ho
    obtain ⟨_, _, rfl⟩ := List.mem_map.1 ho
    exact inB_iff.2 (by omega)
  · intro j h1 h2
    simp only [newM, List.getElem_map]
    exact rsB_iff.2 (by dsimp only; omega)
  · intro m hm
    obtain ⟨s, _, rfl⟩ := List.mem_map.1 hm
    refine moB_iff.2 ?_
    dsimp only
    split <;> omega
  · intro m hm
    obtain ⟨s, _, rfl⟩ := List.mem_map.1 hm
    exact moB_iff.2 (by dsimp only; omega)
  · intro l hl
    have hl : l ∈ List.replicate 4 (default : Ln) := hl
    rw [(List.mem_replicate.1 hl).2]
    rfl
  · intro n hn
    obtain ⟨_, _, rfl⟩ := List.mem_map.1 hn
    rfl
theorem FitP.with_own {c : Cf} {k : Kp} (h : FitP c k) {o : List Int} (hl : o.length = k.own.length) (ho : ∀ x ∈ o, inB (-2) c.rts.length x = true) : FitP c { k with own := o } :=
  { h with l1 := hl.trans h.l1, own := ho }
theorem FitP.with_rt {c : Cf} {k : Kp} (h : FitP c k) {j : Nat} {x : Rs} (hx : ∀ hj : j < c.rts.length, rsB c.rts[j] x = true) : FitP c { k with rts := k.rts.set j x } :=
  { h with
    l2 := (by show (k.rts.set j x).length = _; rw [List.length_set]; exact h.l2)
    rts := fun i h1 h2 => by
      have h2' : i < k.rts.length := by simpa using h2
      show rsB c.rts[i] ((k.rts.set j x)[i]'h2) = true
      rw [List.getElem_set]
      split
      · rename_i e
        subst e
        exact hx h1
      · exact h.rts i h1 h2' }
theorem FitP.with_dirty {c : Cf} {k : Kp} (h : FitP c k) (b : Bool) : FitP c { k with dirty := b } := { h with }
theorem FitP.rt_at {c : Cf} {k : Kp} (h : FitP c k) {j : Nat} (hj : j < c.rts.length) : rsB c.rts[j] (rsAt k j) = true := by
  have h2 : j < k.rts.length := by rw [h.l2]; exact hj
  have := h.rts j hj h2
  unfold rsAt
  rw [Int.toNat_natCast, List.getD_eq_getElem?_getD, List.getElem?_eq_getElem h2]
  exact this
theorem takeL_length (v : Int) : ∀ (l o : List Int), (takeL v l o).length = o.length
  | [], _ => rfl
  | s :: l, o => by rw [takeL, takeL_length v l, List.length_set]
theorem takeL_mem (v : Int) : ∀ (l o : List Int) (x : Int), x ∈ takeL v l o → x = v ∨ x ∈ o
  | [], _, _, h => .inr h
  | s :: l, o, x, h => by
    rcases takeL_mem v l _ x h with h | h
    · exact .inl h
    · rcases List.mem_or_eq_of_mem_set h with h | h
      · exact .inr h
      · exact .inl h
/-- who owns a section behind a taking -/
theorem takeL_at (v : Int) : ∀ (l o : List Int) (s : Nat), s < o.length → (∀ x ∈ l, 0 ≤ x) → ownAt (takeL v l o) s = if l.contains (s : Int) = true then v else ownAt o s
  | [], o, s, _, _ => by simp [takeL]
  | x :: l, o, s, hs, hp => by
    rw [takeL, takeL_at v l _ s (by rw [List.length_set]; exact hs) (fun y hy => hp y (List.mem_cons_of_mem _ hy))]
    have hx := hp x (List.mem_cons_self ..)
    obtain ⟨j, rfl⟩ := Int.eq_ofNat_of_zero_le hx
    by_cases hc : l.contains (s : Int) = true
    · rw [if_pos hc, if_pos (by rw [List.contains_cons, hc, Bool.or_true])]
    · rw [if_neg hc]
      unfold ownAt
      rw [Int.toNat_natCast, Int.toNat_natCast, List.getD_eq_getElem?_getD, List.getElem?_set]
      by_cases hj : j = s
      · subst hj
        rw [if_pos rfl, if_pos hs, if_pos (by rw [List.contains_cons]; simp)]
        rfl
      · rw [if_neg hj, if_neg, List.getD_eq_getElem?_getD]
        rw [List.contains_cons, Bool.or_eq_true, not_or]
        exact ⟨by simp; omega, hc⟩
theorem cmd_ok {m : Mo} {now cmd : Int} (h : moB m = true) (hn : tmB now = true) (hc : 0 ≤ cmd ∧ cmd ≤ 2) : moB (cmdM m now cmd) = true := by
  have h := moB_iff.1 h
  have hn := tm_iff.1 hn
  refine moB_iff.2 ?_
  unfold cmdM
  dsimp only
  split <;> omega
theorem all_set {α : Type} {p : α → Bool} {l : List α} {j : Nat} {x : α} (h : ∀ m ∈ l, p m = true) (hx : p x = true) : ∀ m ∈ l.set j x, p m = true := by
  intro m hm
  rcases List.mem_or_eq_of_mem_set hm with hm | rfl
  · exact h m hm
  · exact hx
theorem getD_ok {l : List Mo} (h : ∀ m ∈ l, moB m = true) (j : Nat) : moB (l.getD j default) = true := by
  rw [List.getD_eq_getElem?_getD]
  cases e : l[j]? with
  | none => rfl
  | some m => exact h m (List.mem_of_getElem? e)
theorem ptsL_ok {now : Int} (hn : tmB now = true) : ∀ (l : List Nd) (p : List Mo), (∀ n ∈ l, 0 ≤ n.pos ∧ n.pos ≤ 2) → (∀ m ∈ p, moB m = true) → (ptsL now l p).length = p.length ∧ ∀ m ∈ ptsL now l p, moB m = true
  | [], p, _, h => ⟨rfl, h⟩
  | n :: l, p, hp, h => by
    have ih := ptsL_ok hn l (p.set n.sec.toNat (cmdM (p.getD n.sec.toNat default) now n.pos)) (fun y hy => hp y (List.mem_cons_of_mem _ hy)) (all_set h (cmd_ok (getD_ok h _) hn (hp n (List.mem_cons_self ..))))
    rw [ptsL]
    exact ⟨ih.1.trans (List.length_set ..), ih.2⟩
theorem crsL_ok {now : Int} (hn : tmB now = true) : ∀ (l : List Int) (p : List Mo), (∀ m ∈ p, moB m = true) → (crsL now l p).length = p.length ∧ ∀ m ∈ crsL now l p, moB m = true
  | [], p, h => ⟨rfl, h⟩
  | n :: l, p, h => by
    have ih := crsL_ok hn l (p.set n.toNat (cmdM (p.getD n.toNat default) now 1)) (all_set h (cmd_ok (getD_ok h _) hn (by decide)))
    rw [crsL]
    exact ⟨ih.1.trans (List.length_set ..), ih.2⟩
theorem posOutL_bd : ∀ (l : List Wy) (i o : Int), (∀ w ∈ l, 0 ≤ w.pos ∧ w.pos ≤ 2) → 0 ≤ posOutL l i o ∧ posOutL l i o ≤ 2
  | [], _, _, _ => by simp [posOutL]
  | w :: r, i, o, h => by
    unfold posOutL
    split
    · exact h w (List.mem_cons_self ..)
    · exact posOutL_bd r i o fun y hy => h y (List.mem_cons_of_mem _ hy)
theorem posOut_bd (k i o : Int) : 0 ≤ posOut k i o ∧ posOut k i o ≤ 2 := by
  unfold posOut
  refine posOutL_bd _ _ _ fun w hw => ?_
  rcases kind_cases k with rfl | rfl | rfl | hk
  · simp [waysM] at hw; subst hw; decide
  · simp [waysM] at hw; rcases hw with rfl | rfl <;> decide
  · simp [waysM] at hw; rcases hw with rfl | rfl <;> decide
  · rw [ways_none hk] at hw; cases hw
theorem flankI_pos {l : List Sec} {js : List Jo} {x : Go.Proofs.Ytnnacdkijeoeoaa.St} : ∀ (es : List Int) (q : List Bool × List Nd), (∀ n ∈ q.2, 0 ≤ n.pos ∧ n.pos ≤ 2) → ∀ n ∈ (flankI l js x es q).2, 0 ≤ n.pos ∧ n.pos ≤ 2
  | [], q, h => h
  | e :: r, q, h => by
    rw [flankI]
    refine flankI_pos r _ ?_
    unfold flankE
    split
    · exact h
    · split
      · rename_i hg
        intro n hn
        rcases List.mem_append.1 hn with hn | hn
        · exact h n hn
        · rw [List.mem_singleton.1 hn]
          unfold guardOk at hg
          simp only [Bool.and_eq_true, Bool.or_eq_true, decide_eq_true_eq] at hg
          unfold guardN
          dsimp only
          omega
      · exact h
theorem flankO_pos {l : List Sec} {js : List Jo} : ∀ (p : List Go.Proofs.Ytnnacdkijeoeoaa.St) (q : List Bool × List Nd), (∀ n ∈ q.2, 0 ≤ n.pos ∧ n.pos ≤ 2) → ∀ n ∈ (flankO l js p q).2, 0 ≤ n.pos ∧ n.pos ≤ 2
  | [], q, h => h
  | x :: r, q, h => by
    rw [flankO]
    exact flankO_pos r _ (flankI_pos _ _ h)
/-- of a right station -/
theorem rt_mem {c : Cf} {j : Nat} (hj : j < c.rts.length) : rtAt c j = c.rts[j] := by
  unfold rtAt
  rw [Int.toNat_natCast, List.getD_eq_getElem?_getD, List.getElem?_eq_getElem hj]
  rfl
theorem right_at {c : Cf} (h : checkE c = 0) {j : Nat} (hj : j < c.rts.length) : Route c.secs c.jos c.sigs c.rts[j] := route_right h (List.getElem_mem hj)
theorem errs_at {c : Cf} (h : checkE c = 0) {j : Nat} (hj : j < c.rts.length) : errR c.secs c.jos c.sigs c.rts[j] = 0 := routesE_zero (check_parts h).2.2.2.2.1 _ (List.getElem_mem hj)
theorem needs_pos {c : Cf} (h : checkE c = 0) {j : Nat} (hj : j < c.rts.length) : ∀ n ∈ needsM c.secs c.rts[j], 0 ≤ n.pos ∧ n.pos ≤ 2 := by
  intro n hn
  unfold needsM at hn
  rcases List.mem_append.1 hn with hn | hn
  · obtain ⟨x, _, hx⟩ := List.mem_filterMap.1 hn
    unfold ask at hx
    split at hx
    · injection hx with hx
      rw [← hx]
      exact posOut_bd ..
    · cases hx
  · rw [(errR_parts (errs_at h hj)).2.1] at hn
    exact flankO_pos _ _ (by simp) n hn
theorem locks_in {c : Cf} (h : checkE c = 0) {j : Nat} (hj : j < c.rts.length) : ∀ s ∈ locksM c.rts[j], 0 ≤ s ∧ s < c.secs.length := fun s hs => sec_iff ((right_at h hj).locks s hs).1
theorem req_parts {c : Cf} {k : Kp} {r : Int} (h : reqE c k r = 0) : (rsAt k r).st = 0 ∧ (locksM (rtAt c r)).any (aheadB c.sigs c.rts k.rts) = false ∧ (locksM (rtAt c r)).all (canB c.rts k.own (rtAt c r)) = true ∧ (lineM c.secs (rtAt c r).path = 0 ∨ askAt k.lns (lineM c.secs (rtAt c r).path) < 4294967295) := by
  unfold reqE at h
  split at h
  · cases h
  · rename_i h1
    split at h
    · cases h
    · rename_i h2
      split at h
      · cases h
      · rename_i h3
        split at h
        · cases h
        · rename_i h4
          refine ⟨by omega, by simpa using h2, by simpa using h3, ?_⟩
          omega
theorem req_fit {c : Cf} {k : Kp} (h : FitP c k) {now : Int} (hn : tmB now = true) {j : Nat} (hj : j < c.rts.length) (he : reqE c k j = 0) : FitP c (reqK c k now j) := by
  obtain ⟨-, -, -, h4⟩ := req_parts he
  rw [rt_mem hj] at h4
  have hp := ptsL_ok hn (needsM c.secs c.rts[j]) k.pts (needs_pos h.chk hj) h.pts
  have hx := crsL_ok hn (crsM c.crs c.rts[j].path) k.crs h.crs
  unfold reqK
  rw [rt_mem hj, Int.toNat_natCast]
  have f := h.with_rt (j := j) (x := ⟨1, 0, 0, 0⟩) fun hj => rsB_iff.2 (by dsimp only; omega)
  refine ⟨h.chk, (takeL_length ..).trans h.l1, f.l2, hp.1.trans h.l3, hx.1.trans h.l4, ?_, h.l6, ?_, f.rts, hp.2, hx.2, ?_, h.rss⟩
  · unfold askL
    split
    · exact h.l5
    · exact (List.length_set ..).trans h.l5
  · intro o ho
    rcases takeL_mem _ _ _ _ ho with rfl | ho
    · exact inB_iff.2 (by omega)
    · exact h.own o ho
  · unfold askL
    split
    · exact h.lns
    · rename_i h0
      refine all_set h.lns ?_
      have ha : askAt k.lns (lineM c.secs c.rts[j].path) < 4294967295 := by
        rcases h4 with h4 | h4
        · exact absurd h4 h0
        · exact h4
      unfold askAt at ha ⊢
      rw [List.getD_eq_getElem?_getD] at ha ⊢
      cases e : k.lns[(lineM c.secs c.rts[j].path).toNat]? with
      | none => rfl
      | some l =>
        have := h.lns l (List.mem_of_getElem? e)
        rw [e] at ha
        simp only [Option.getD_some] at ha ⊢
        unfold lnB at this ⊢
        simp only [List.all_cons, List.all_nil, Bool.and_eq_true, tm_iff, inB_iff, Bool.and_true] at this ⊢
        omega
theorem end_fit {c : Cf} {k : Kp} (h : FitP c k) {now : Int} (hn : tmB now = true) {j : Nat} (hj : j < c.rts.length) : FitP c (endK k now j) := by
  have a := rsB_iff.1 (h.rt_at hj)
  have b := tm_iff.1 hn
  unfold endK
  rw [Int.toNat_natCast]
  exact (h.with_rt (j := j) fun hj => rsB_iff.2 (by dsimp only; omega)).with_dirty true
theorem isSec_nat {n : Nat} {s : Int} (h : ¬ isSecB n s = false) : ∃ j : Nat, s = j ∧ j < n := by
  have h : isSecB n s = true := by simpa using h
  obtain ⟨j, e, hj⟩ := isSecB_true h
  exact ⟨j, e, hj⟩
/-- P13.2: what a call leads to fits -/
theorem req_ok {c : Cf} {k : Kp} (h : FitP c k) {now : Int} (hn : tmB now = true) (r : Int) : FitP c (reqM c k now r).1 := by
  unfold reqM
  split
  · exact h
  · rename_i hi
    split
    · rename_i he
      obtain ⟨j, rfl, hj⟩ := isSec_nat hi
      exact req_fit h hn hj he
    · exact h
theorem go_ok {c : Cf} {k : Kp} (h : FitP c k) {now : Int} (hn : tmB now = true) (r : Int) (sts : List Int) : FitP c (goM c k now r sts).1 := by
  unfold goM
  split
  · exact h
  · rename_i hi
    split
    · exact h
    · obtain ⟨j, rfl, hj⟩ := isSec_nat hi
      exact end_fit h hn hj
theorem rest_ok {c : Cf} {k : Kp} (h : FitP c k) (r : Int) : FitP c (restM c k r).1 := by
  unfold restM
  split
  · exact h
  · rename_i hi
    split
    · exact h
    · obtain ⟨j, rfl, hj⟩ := isSec_nat hi
      have a := rsB_iff.1 (h.rt_at hj)
      rw [Int.toNat_natCast]
      exact h.with_rt (j := j) fun hj => rsB_iff.2 (by dsimp only; omega)
theorem reset_ok {c : Cf} {k : Kp} (h : FitP c k) {now : Int} (hn : tmB now = true) (s : Int) : FitP c (resetM c k now s).1 := by
  have b := tm_iff.1 hn
  unfold resetM
  split
  · exact h
  · split
    · exact h
    · exact { h with l6 := (List.length_set ..).trans h.l6, rss := all_set h.rss (inB_iff.2 (by omega)) }
theorem throw_ok {c : Cf} {k : Kp} (h : FitP c k) {now : Int} (hn : tmB now = true) (s pos : Int) : FitP c (throwM c k now s pos).1 := by
  unfold throwM
  split
  · exact h
  · split
    · exact h
    · rename_i hp
      split
      · exact h
      · have hp : pos = 1 ∨ pos = 2 := by
          rw [Bool.not_eq_false, Bool.or_eq_true, decide_eq_true_eq, decide_eq_true_eq] at hp
          exact hp
        exact { h with l3 := (List.length_set ..).trans h.l3, pts := all_set h.pts (cmd_ok (getD_ok h.pts _) hn (by omega)) }
end Go.Proofs.Ytnnacdkijeoeoaa.Lk

/- Plain: what is answered at the first start, and in a station whose sections are all free. -/
import Derived.Test.YtnnacdkijeoeoaaLplain
namespace Go.Proofs.Ytnnacdkijeoeoaa.Lk

theorem ahead_idle (sg : List Sg) : ∀ (r : List Rt) (x : List Rs) (s : Int), (∀ y ∈ x, y.st = 0) → aheadB sg r x s = false
  | [], _, _, _ => by simp [aheadB]
  | _ :: _, [], _, _ => by simp [aheadB]
  | r :: rs, x :: xs, s, h => by
    rw [aheadB, ahead_idle sg rs xs s fun y hy => h y (List.mem_cons_of_mem _ hy), h x (List.mem_cons_self ..)]
    simp
theorem ownAt_map {α : Type} (f : α → Int) (l : List α) (j : Nat) (hj : j < l.length) : ownAt (l.map f) j = f l[j] := by
  unfold ownAt
  rw [Int.toNat_natCast, List.getD_eq_getElem?_getD, List.getElem?_map, List.getElem?_eq_getElem hj]
  rfl
theorem locks_some {c : Cf} (h : checkE c = 0) {j : Nat} (hj : j < c.rts.length) : ∃ s, s ∈ locksM c.rts[j] := by
  have a := (errR_parts (errs_at h hj)).1
  unfold routeB at a
  simp only [Bool.and_eq_true, decide_eq_true_eq] at a
  have hp : 0 < c.rts[j].path.length := a.2.2.1
  refine ⟨(c.rts[j].path[0]'hp).sec, (locksM_mem _ _).2 ?_⟩
  unfold rawLocks
  exact List.mem_append.2 (.inr (List.mem_append.2 (.inl (List.mem_map_of_mem (List.getElem_mem hp)))))
theorem rs_idle {c : Cf} {now : Int} {j : Nat} (hj : j < c.rts.length) : rsAt (newM c now) j = ⟨0, 0, 0, 0⟩ := by
  unfold rsAt newM
  rw [Int.toNat_natCast, List.getD_eq_getElem?_getD, List.getElem?_map, List.getElem?_eq_getElem hj]
  rfl
theorem isSec_true {n j : Nat} (hj : j < n) : isSecB n (j : Int) = true := by unfold isSecB; simp; omega
theorem cold_req {c : Cf} (h : checkE c = 0) (now : Int) {j : Nat} (hj : j < c.rts.length) : reqM c (newM c 3) now j = (newM c 3, 22) := by
  have he : reqE c (newM c 3) j = 22 := by
    unfold reqE
    rw [rs_idle hj, rt_mem hj, if_neg (by decide), if_neg, if_pos]
    · rw [List.all_eq_false]
      obtain ⟨s, hs⟩ := locks_some h hj
      obtain ⟨h0, h1⟩ := locks_in h hj s hs
      obtain ⟨i, rfl⟩ := Int.eq_ofNat_of_zero_le h0
      refine ⟨i, hs, ?_⟩
      unfold canB
      have e : ownAt (newM c 3).own (i : Int) = -1 := ownAt_map (fun _ => -1) c.secs i (by omega)
      have e : ownAt (newM c 3).own (i : Int) = -1 := e
      rw [e]
      unfold inhB isSecB
      simp
    · rw [Bool.not_eq_true, List.any_eq_false]
      intro s hs
      rw [ahead_idle]
      · simp
      · intro y hy
        obtain ⟨_, _, rfl⟩ := List.mem_map.1 hy
        rfl
  unfold reqM
  rw [isSec_true hj, if_neg (by decide), he, if_neg (by decide)]
theorem cold_throw {c : Cf} (now pos : Int) {j : Nat} (hj : j < c.secs.length) (hp : pos = 1 ∨ pos = 2) : throwM c (newM c 3) now j pos = (newM c 3, if kindOf c.secs j = 1 then 22 else 20) := by
  unfold throwM
  rw [isSec_true hj, Bool.true_and, Int.toNat_natCast]
  have e : ownAt (newM c 3).own (j : Int) = -1 := ownAt_map (fun _ => -1) c.secs j hj
  have hd : (decide (pos = 1) || decide (pos = 2)) = true := by simpa using hp
  by_cases hk : kindOf c.secs j = 1
  · rw [hk, if_neg (by decide), hd, if_neg (by decide), e, if_pos (by decide), if_pos rfl]
  · rw [if_pos (by simpa using hk), if_neg hk]
theorem cold_reset {c : Cf} (now : Int) {j : Nat} (hj : j < c.secs.length) : resetM c (newM c 3) now j = ({ newM c 3 with rss := (newM c 3).rss.set j (now + 1) }, 0) := by
  unfold resetM
  rw [isSec_true hj, if_neg (by decide), Int.toNat_natCast]
  have e : ownAt (newM c 3).own (j : Int) = -1 := ownAt_map (fun _ => -1) c.secs j hj
  rw [e, if_neg (by decide)]
/-- a first start of a right station, all its sections free -/
def openM (c : Cf) : Kp := { newM c 0 with own := c.secs.map fun _ => 0 }
theorem open_fit {c : Cf} (h : checkE c = 0) : FitP c (openM c) :=
  (new_fit h (now := 0) (by decide)).with_own (by simp [newM]) fun x hx => by
    obtain ⟨_, _, rfl⟩ := List.mem_map.1 hx
    exact inB_iff.2 (by omega)
theorem secs_some {c : Cf} (h : checkE c = 0) : 0 < c.secs.length := by
  have h1 := (check_parts h).1
  unfold checkB at h1
  rw [Bool.and_eq_true] at h1
  exact (sizes_short h1.1).1
theorem open_req {c : Cf} (h : checkE c = 0) (now : Int) {j : Nat} (hj : j < c.rts.length) : reqM c (openM c) now j = (reqK c (openM c) now j, 0) := by
  have he : reqE c (openM c) j = 0 := by
    unfold reqE
    have e0 : rsAt (openM c) j = ⟨0, 0, 0, 0⟩ := rs_idle (now := 0) hj
    rw [e0, rt_mem hj, if_neg (by decide), if_neg, if_neg, if_neg]
    · intro hh
      have : askAt (openM c).lns (lineM c.secs c.rts[j].path) = 0 := by
        unfold askAt
        rw [List.getD_eq_getElem?_getD]
        show ((List.replicate 4 (default : Ln))[(lineM c.secs c.rts[j].path).toNat]?.getD default).ask = 0
        rw [List.getElem?_replicate]
        split <;> rfl
      omega
    · rw [Bool.not_eq_false, List.all_eq_true]
      intro s hs
      obtain ⟨h0, h1⟩ := locks_in h hj s hs
      obtain ⟨i, rfl⟩ := Int.eq_ofNat_of_zero_le h0
      unfold canB
      have e : ownAt (openM c).own (i : Int) = 0 := ownAt_map (fun _ => 0) c.secs i (by omega)
      rw [e]
      rfl
    · rw [Bool.not_eq_true, List.any_eq_false]
      intro s hs
      rw [ahead_idle]
      · simp
      · intro y hy
        obtain ⟨_, _, rfl⟩ := List.mem_map.1 hy
        rfl
  unfold reqM
  rw [isSec_true hj, if_neg (by decide), he, if_pos rfl]
/-- no route's overlap stands in its own path -/
theorem over_path {c : Cf} (h : checkE c = 0) {j : Nat} (hj : j < c.rts.length) : ∀ s ∈ c.rts[j].over, ∀ x ∈ c.rts[j].path, x.sec ≠ s := by
  intro s hs x hx he
  rw [(errR_parts (errs_at h hj)).2.2] at hs
  unfold overM at hs
  split at hs
  · rename_i ho
    have hs := List.mem_singleton.1 hs
    unfold overOk at ho
    simp only [Bool.and_eq_true, Bool.not_eq_true'] at ho
    obtain ⟨_, _, _, h4, _, h6⟩ := ho
    obtain ⟨i, e, hi⟩ := isSecB_true h4
    rw [e, Int.toNat_natCast, barM_at _ _ _ _ hi, Bool.or_eq_false_iff, List.any_eq_false] at h6
    have := h6.1 x hx
    rw [decide_eq_true_eq] at this
    exact this (by rw [he, hs, e])
  · cases hs
theorem path_locks {c : Cf} {j : Nat} (hj : j < c.rts.length) {x : Go.Proofs.Ytnnacdkijeoeoaa.St} (hx : x ∈ c.rts[j].path) : x.sec ∈ locksM c.rts[j] := by
  refine (locksM_mem _ _).2 ?_
  unfold rawLocks
  exact List.mem_append.2 (.inr (List.mem_append.2 (.inl (List.mem_map_of_mem hx))))
/-- who locks a route behind another one has no section of its path in common with it -/
theorem apart_plain {c : Cf} (h : checkE c = 0) {now : Int} {a b : Nat} (ha : a < c.rts.length) (hb : b < c.rts.length) (he : reqE c (reqK c (openM c) now a) b = 0) :
    a ≠ b ∧ ∀ x ∈ c.rts[a].path, ∀ y ∈ c.rts[b].path, x.sec ≠ y.sec := by
  obtain ⟨h1, _, h3, _⟩ := req_parts he
  have hl : a < (openM c).rts.length := by show a < (c.rts.map _).length; simpa using ha
  have hst : rsAt (reqK c (openM c) now a) a = ⟨1, 0, 0, 0⟩ := by
    unfold rsAt reqK
    rw [Int.toNat_natCast, List.getD_eq_getElem?_getD, List.getElem?_set_self hl]
    rfl
  refine ⟨fun e => ?_, fun x hx y hy e => ?_⟩
  · subst e
    rw [hst] at h1
    cases h1
  · rw [rt_mem hb, List.all_eq_true] at h3
    have hc := h3 y.sec (path_locks hb hy)
    obtain ⟨h0, h9⟩ := locks_in h hb y.sec (path_locks hb hy)
    have hxl : x.sec ∈ locksM c.rts[a] := path_locks ha hx
    rw [← e] at hc h0 h9
    obtain ⟨i, hi⟩ := Int.eq_ofNat_of_zero_le h0
    have hi9 : i < c.secs.length := by omega
    have ho : ownAt (reqK c (openM c) now a).own x.sec = (a : Int) + 1 := by
      rw [hi]
      show ownAt (takeL ((a : Int) + 1) (locksM (rtAt c a)) (openM c).own) i = _
      rw [rt_mem ha, takeL_at _ _ _ _ (by show i < (c.secs.map _).length; simpa using hi9) (fun z hz => (locks_in h ha z hz).1), if_pos]
      rw [← hi]
      simpa using hxl
    unfold canB at hc
    rw [ho, Bool.or_eq_true, decide_eq_true_eq] at hc
    rcases hc with hc | hc
    · omega
    · unfold inhB at hc
      rw [show (a : Int) + 1 - 1 = a by omega, Int.toNat_natCast, Bool.and_eq_true, Bool.and_eq_true] at hc
      have ho2 := hc.2.2
      have e9 : c.rts.getD a default = c.rts[a] := by rw [List.getD_eq_getElem?_getD, List.getElem?_eq_getElem ha]; rfl
      rw [e9] at ho2
      exact over_path h ha x.sec (by simpa using ho2) x hx rfl
end Go.Proofs.Ytnnacdkijeoeoaa.Lk

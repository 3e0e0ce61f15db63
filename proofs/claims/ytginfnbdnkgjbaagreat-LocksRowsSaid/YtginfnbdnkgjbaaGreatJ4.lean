import Derived.Test.YtginfnbdnkgjbaaGreatJ1
import Derived.Test.YtginfnbdnkgjbaaGreatJ3
import Derived.Deep.LoopGhost
import Derived.Test.YtginfnbdnkgjbaaGreatKx
import Derived.Test.YtginfnbdnkgjbaaGreatK2
import Derived.Test.YtginfnbdnkgjbaaGreatJ2
import Derived.Test.YtginfnbdnkgjbaaGreatKz
import Derived.Test.YtginfnbdnkgjbaaGreatLtob
import Derived.Test.YtginfnbdnkgjbaaGreatKa
import Derived.Test.YtginfnbdnkgjbaaGreatLfacts
import Derived.SizedLaws
namespace Go.Proofs.YtginfnbdnkgjbaaGreat.Lk
theorem ahead_idle (sg : List Sg) : ∀ (r : List Rt) (x : List Rs) (s : Int), (∀ y ∈ x, y.st = 0) → aheadB sg r x s = false
 | [], _, _, _ => by simp [aheadB]
 | _ :: _, [], _, _ => by simp [aheadB]
 | r :: rs, x :: xs, s, h => by
  rw [aheadB, ahead_idle sg rs xs s fun y hy => h y (List.mem_cons_of_mem _ hy), h x (List.mem_cons_self ..)]
  simp
theorem ownAt_map {α : Type} (f : α → Int) (l : List α) (j : Nat) (hj : j < l.length) : ownAt (l.map f) j = f l[j] := by
 unfold ownAt
 rw [Int.toNat_natCast, List.getD_eq_getElem?_getD, List.getElem?_map, List.getElem?_eq_getElem hj]
 rfl
theorem locks_some {c : Cf} (h : checkE c = 0) {j : Nat} (hj : j < c.rts.length) : ∃ s, s ∈ locksM c.rts[j] := by
 have a := (errR_parts (errs_at h hj)).1
 unfold routeB at a
 simp only [Bool.and_eq_true, decide_eq_true_eq] at a
 have hp : 0 < c.rts[j].path.length := a.2.2.1
 refine ⟨(c.rts[j].path[0]'hp).sec, (locksM_mem _ _).2 ?_⟩
 unfold rawLocks
 exact List.mem_append.2 (.inr (List.mem_append.2 (.inl (List.mem_map_of_mem (List.getElem_mem hp)))))
theorem rs_idle {c : Cf} {now : Int} {j : Nat} (hj : j < c.rts.length) : rsAt (newM c now) j = ⟨0, 0, 0, 0⟩ := by
 unfold rsAt newM
 rw [Int.toNat_natCast, List.getD_eq_getElem?_getD, List.getElem?_map, List.getElem?_eq_getElem hj]
 rfl
theorem isSec_true {n j : Nat} (hj : j < n) : isSecB n (j : Int) = true := by unfold isSecB; simp; omega
theorem cold_req {c : Cf} (h : checkE c = 0) (now : Int) {j : Nat} (hj : j < c.rts.length) : reqM c (newM c 3) now j = (newM c 3, 22) := by
 have he : reqE c (newM c 3) j = 22 := by
  unfold reqE
  rw [rs_idle hj, rt_mem hj, if_neg (by decide), if_neg, if_pos]
  ·rw [List.all_eq_false]
   obtain ⟨s, hs⟩ := locks_some h hj
   obtain ⟨h0, h1⟩ := locks_in h hj s hs
   obtain ⟨i, rfl⟩ := Int.eq_ofNat_of_zero_le h0
   refine ⟨i, hs, ?_⟩
   unfold canB
   have e : ownAt (newM c 3).own (i : Int) = -1 := ownAt_map (fun _ => -1) c.secs i (by omega)
   have e : ownAt (newM c 3).own (i : Int) = -1 := e
   rw [e]
   unfold inhB isSecB
   simp
  ·rw [Bool.not_eq_true, List.any_eq_false]
   intro s hs
   rw [ahead_idle]
   ·simp
   ·intro y hy
    obtain ⟨_, _, rfl⟩ := List.mem_map.1 hy
    rfl
 unfold reqM
 rw [isSec_true hj, if_neg (by decide), he, if_neg (by decide)]
theorem cold_throw {c : Cf} (now pos : Int) {j : Nat} (hj : j < c.secs.length) (hp : pos = 1 ∨ pos = 2) : throwM c (newM c 3) now j pos = (newM c 3, if kindOf c.secs j = 1 then 22 else 20) := by
 unfold throwM
 rw [isSec_true hj, Bool.true_and, Int.toNat_natCast]
 have e : ownAt (newM c 3).own (j : Int) = -1 := ownAt_map (fun _ => -1) c.secs j hj
 have hd : (decide (pos = 1) || decide (pos = 2)) = true := by simpa using hp
 by_cases hk : kindOf c.secs j = 1
 ·rw [hk, if_neg (by decide), hd, if_neg (by decide), e, if_pos (by decide), if_pos rfl]
 ·rw [if_pos (by simpa using hk), if_neg hk]
theorem cold_reset {c : Cf} (now : Int) {j : Nat} (hj : j < c.secs.length) : resetM c (newM c 3) now j = ({ newM c 3 with rss := (newM c 3).rss.set j (now + 1) }, 0) := by
 unfold resetM
 rw [isSec_true hj, if_neg (by decide), Int.toNat_natCast]
 have e : ownAt (newM c 3).own (j : Int) = -1 := ownAt_map (fun _ => -1) c.secs j hj
 rw [e, if_neg (by decide)]
def openM (c : Cf) : Kp := { newM c 0 with own := c.secs.map fun _ => 0 }
theorem open_fit {c : Cf} (h : checkE c = 0) : FitP c (openM c) :=
 (new_fit h (now := 0) (by decide)).with_own (by simp [newM]) fun x hx => by
  obtain ⟨_, _, rfl⟩ := List.mem_map.1 hx
  exact inB_iff.2 (by omega)
theorem secs_some {c : Cf} (h : checkE c = 0) : 0 < c.secs.length := by
 have h1 := (check_parts h).1
 unfold checkB at h1
 rw [Bool.and_eq_true] at h1
 exact (sizes_short h1.1).1
theorem open_req {c : Cf} (h : checkE c = 0) (now : Int) {j : Nat} (hj : j < c.rts.length) : reqM c (openM c) now j = (reqK c (openM c) now j, 0) := by
 have he : reqE c (openM c) j = 0 := by
  unfold reqE
  have e0 : rsAt (openM c) j = ⟨0, 0, 0, 0⟩ := rs_idle (now := 0) hj
  rw [e0, rt_mem hj, if_neg (by decide), if_neg, if_neg, if_neg]
  ·intro hh
   have : askAt (openM c).lns (lineM c.secs c.rts[j].path) = 0 := by
    unfold askAt
    rw [List.getD_eq_getElem?_getD]
    show ((List.replicate 4 (default : Ln))[(lineM c.secs c.rts[j].path).toNat]?.getD default).ask = 0
    rw [List.getElem?_replicate]
    split <;> rfl
   omega
  ·rw [Bool.not_eq_false, List.all_eq_true]
   intro s hs
   obtain ⟨h0, h1⟩ := locks_in h hj s hs
   obtain ⟨i, rfl⟩ := Int.eq_ofNat_of_zero_le h0
   unfold canB
   have e : ownAt (openM c).own (i : Int) = 0 := ownAt_map (fun _ => 0) c.secs i (by omega)
   rw [e]
   rfl
  ·rw [Bool.not_eq_true, List.any_eq_false]
   intro s hs
   rw [ahead_idle]
   ·simp
   ·intro y hy
    obtain ⟨_, _, rfl⟩ := List.mem_map.1 hy
    rfl
 unfold reqM
 rw [isSec_true hj, if_neg (by decide), he, if_pos rfl]
theorem over_path {c : Cf} (h : checkE c = 0) {j : Nat} (hj : j < c.rts.length) : ∀ s ∈ c.rts[j].over, ∀ x ∈ c.rts[j].path, x.sec ≠ s := by
 intro s hs x hx he
 rw [(errR_parts (errs_at h hj)).2.2] at hs
 unfold overM at hs
 split at hs
 ·rename_i ho
  have hs := List.mem_singleton.1 hs
  unfold overOk at ho
  simp only [Bool.and_eq_true, Bool.not_eq_true'] at ho
  obtain ⟨_, _, _, h4, _, h6⟩ := ho
  obtain ⟨i, e, hi⟩ := isSecB_true h4
  rw [e, Int.toNat_natCast, barM_at _ _ _ _ hi, Bool.or_eq_false_iff, List.any_eq_false] at h6
  have := h6.1 x hx
  rw [decide_eq_true_eq] at this
  exact this (by rw [he, hs, e])
 ·cases hs
theorem path_locks {c : Cf} {j : Nat} (hj : j < c.rts.length) {x : Go.Proofs.YtginfnbdnkgjbaaGreat.St} (hx : x ∈ c.rts[j].path) : x.sec ∈ locksM c.rts[j] := by
 refine (locksM_mem _ _).2 ?_
 unfold rawLocks
 exact List.mem_append.2 (.inr (List.mem_append.2 (.inl (List.mem_map_of_mem hx))))
theorem apart_plain {c : Cf} (h : checkE c = 0) {now : Int} {a b : Nat} (ha : a < c.rts.length) (hb : b < c.rts.length) (he : reqE c (reqK c (openM c) now a) b = 0) :
  a ≠ b ∧ ∀ x ∈ c.rts[a].path, ∀ y ∈ c.rts[b].path, x.sec ≠ y.sec := by
 obtain ⟨h1, _, h3, _⟩ := req_parts he
 have hl : a < (openM c).rts.length := by show a < (c.rts.map _).length; simpa using ha
 have hst : rsAt (reqK c (openM c) now a) a = ⟨1, 0, 0, 0⟩ := by
  unfold rsAt reqK
  rw [Int.toNat_natCast, List.getD_eq_getElem?_getD, List.getElem?_set_self hl]
  rfl
 refine ⟨fun e => ?_, fun x hx y hy e => ?_⟩
 ·subst e
  rw [hst] at h1
  cases h1
 ·rw [rt_mem hb, List.all_eq_true] at h3
  have hc := h3 y.sec (path_locks hb hy)
  obtain ⟨h0, h9⟩ := locks_in h hb y.sec (path_locks hb hy)
  have hxl : x.sec ∈ locksM c.rts[a] := path_locks ha hx
  rw [← e] at hc h0 h9
  obtain ⟨i, hi⟩ := Int.eq_ofNat_of_zero_le h0
  have hi9 : i < c.secs.length := by omega
  have ho : ownAt (reqK c (openM c) now a).own x.sec = (a : Int) + 1 := by
   rw [hi]
   show ownAt (takeL ((a : Int) + 1) (locksM (rtAt c a)) (openM c).own) i = _
   rw [rt_mem ha, takeL_at _ _ _ _ (by show i < (c.secs.map _).length; simpa using hi9) (fun z hz => (locks_in h ha z hz).1), if_pos]
   rw [← hi]
   simpa using hxl
  unfold canB at hc
  rw [ho, Bool.or_eq_true, decide_eq_true_eq] at hc
  rcases hc with hc | hc
  ·omega
  ·unfold inhB at hc
   rw [show (a : Int) + 1 - 1 = a by omega, Int.toNat_natCast, Bool.and_eq_true, Bool.and_eq_true] at hc
   have ho2 := hc.2.2
   have e9 : c.rts.getD a default = c.rts[a] := by rw [List.getD_eq_getElem?_getD, List.getElem?_eq_getElem ha]; rfl
   rw [e9] at ho2
   exact over_path h ha x.sec (by simpa using ho2) x hx rfl
end Go.Proofs.YtginfnbdnkgjbaaGreat.Lk
namespace Go.Proofs.YtginfnbdnkgjbaaGreat.Lk
theorem gate_false {c : Cf} {k : Kp} (h : FitP c k) (x : Kp × Int) : gateM c k false x = (k, 32) := by
 unfold gateM
 rw [fits_iff.2 h, if_neg (by decide), if_pos rfl]
theorem gate_cases {c : Cf} {k : Kp} (h : FitP c k) (b : Bool) (x : Kp × Int) : (b = true ∧ gateM c k b x = x) ∨ gateM c k b x = (k, 32) := by
 cases b
 ·exact .inr (gate_false h x)
 ·exact .inl ⟨rfl, gate_fit h x⟩
def inner (c : Cf) (k : Kp) (x : Ca) : Kp × Int :=
 if x.kind = 1 then reqM c k x.now x.n else if x.kind = 2 then goM c k x.now x.n [1, 2, 3] else if x.kind = 3 then restM c k x.n
 else if x.kind = 4 then goM c k x.now x.n [5] else if x.kind = 5 then resetM c k x.now x.n else throwM c k x.now x.n x.pos
theorem do_cases {c : Cf} {k : Kp} (h : FitP c k) (x : Ca) : ((x.kind = 3 ∨ tmB x.now = true) ∧ doM c k x = inner c k x) ∨ doM c k x = (k, 32) := by
 unfold doM inner
 by_cases h1 : x.kind = 1
 ·rw [if_pos h1, if_pos h1]
  rcases gate_cases h (tmB x.now) (reqM c k x.now x.n) with ⟨a, b⟩ | b
  ·exact .inl ⟨.inr a, b⟩
  ·exact .inr b
 rw [if_neg h1, if_neg h1]
 by_cases h2 : x.kind = 2
 ·rw [if_pos h2, if_pos h2]
  rcases gate_cases h (tmB x.now) (goM c k x.now x.n [1, 2, 3]) with ⟨a, b⟩ | b
  ·exact .inl ⟨.inr a, b⟩
  ·exact .inr b
 rw [if_neg h2, if_neg h2]
 by_cases h3 : x.kind = 3
 ·rw [if_pos h3, if_pos h3]
  exact .inl ⟨.inl h3, gate_fit h _⟩
 rw [if_neg h3, if_neg h3]
 by_cases h4 : x.kind = 4
 ·rw [if_pos h4, if_pos h4]
  rcases gate_cases h (tmB x.now) (goM c k x.now x.n [5]) with ⟨a, b⟩ | b
  ·exact .inl ⟨.inr a, b⟩
  ·exact .inr b
 rw [if_neg h4, if_neg h4]
 by_cases h5 : x.kind = 5
 ·rw [if_pos h5, if_pos h5]
  rcases gate_cases h (tmB x.now) (resetM c k x.now x.n) with ⟨a, b⟩ | b
  ·exact .inl ⟨.inr a, b⟩
  ·exact .inr b
 rw [if_neg h5, if_neg h5]
 rcases gate_cases h (tmB x.now) (throwM c k x.now x.n x.pos) with ⟨a, b⟩ | b
 ·exact .inl ⟨.inr a, b⟩
 ·exact .inr b
theorem inner_ok {c : Cf} {k : Kp} (h : FitP c k) (x : Ca) (ht : x.kind = 3 ∨ tmB x.now = true) : FitP c (inner c k x).1 := by
 unfold inner
 by_cases h1 : x.kind = 1
 ·rw [if_pos h1]; exact req_ok h (ht.resolve_left (by omega)) _
 rw [if_neg h1]
 by_cases h2 : x.kind = 2
 ·rw [if_pos h2]; exact go_ok h (ht.resolve_left (by omega)) _ _
 rw [if_neg h2]
 by_cases h3 : x.kind = 3
 ·rw [if_pos h3]; exact rest_ok h _
 rw [if_neg h3]
 have ht := ht.resolve_left h3
 by_cases h4 : x.kind = 4
 ·rw [if_pos h4]; exact go_ok h ht _ _
 rw [if_neg h4]
 by_cases h5 : x.kind = 5
 ·rw [if_pos h5]; exact reset_ok h ht _
 rw [if_neg h5]; exact throw_ok h ht _ _
theorem do_ok {c : Cf} {k : Kp} (h : FitP c k) (x : Ca) : FitP c (doM c k x).1 := by
 rcases do_cases h x with ⟨ht, e⟩ | e
 ·rw [e]; exact inner_ok h x ht
 ·rw [e]; exact h
theorem req_kept {c : Cf} {k : Kp} (now r : Int) (he : (reqM c k now r).2 ≠ 0) : (reqM c k now r).1 = k := by
 unfold reqM at he ⊢
 split
 ·rfl
 ·split
  ·rename_i h1 h2; rw [if_neg h1, if_pos h2] at he; exact absurd rfl he
  ·rfl
theorem go_kept {c : Cf} {k : Kp} (now r : Int) (l : List Int) (he : (goM c k now r l).2 ≠ 0) : (goM c k now r l).1 = k := by
 unfold goM at he ⊢
 split
 ·rfl
 ·split
  ·rfl
  ·rename_i h1 h2; rw [if_neg h1, if_neg h2] at he; exact absurd rfl he
theorem rest_kept {c : Cf} {k : Kp} (r : Int) (he : (restM c k r).2 ≠ 0) : (restM c k r).1 = k := by
 unfold restM at he ⊢
 split
 ·rfl
 ·split
  ·rfl
  ·rename_i h1 h2; rw [if_neg h1, if_neg h2] at he; exact absurd rfl he
theorem reset_kept {c : Cf} {k : Kp} (now s : Int) (he : (resetM c k now s).2 ≠ 0) : (resetM c k now s).1 = k := by
 unfold resetM at he ⊢
 split
 ·rfl
 ·split
  ·rfl
  ·rename_i h1 h2; rw [if_neg h1, if_neg h2] at he; exact absurd rfl he
theorem throw_kept {c : Cf} {k : Kp} (now s p : Int) (he : (throwM c k now s p).2 ≠ 0) : (throwM c k now s p).1 = k := by
 unfold throwM at he ⊢
 split
 ·rfl
 ·split
  ·rfl
  ·split
   ·rfl
   ·rename_i h1 h2 h3; rw [if_neg h1, if_neg h2, if_neg h3] at he; exact absurd rfl he
theorem do_kept {c : Cf} {k : Kp} (h : FitP c k) (x : Ca) (he : (doM c k x).2 ≠ 0) : (doM c k x).1 = k := by
 rcases do_cases h x with ⟨-, e⟩ | e
 ·rw [e] at he ⊢
  unfold inner at he ⊢
  by_cases h1 : x.kind = 1
  ·rw [if_pos h1] at he ⊢; exact req_kept _ _ he
  rw [if_neg h1] at he ⊢
  by_cases h2 : x.kind = 2
  ·rw [if_pos h2] at he ⊢; exact go_kept _ _ _ he
  rw [if_neg h2] at he ⊢
  by_cases h3 : x.kind = 3
  ·rw [if_pos h3] at he ⊢; exact rest_kept _ he
  rw [if_neg h3] at he ⊢
  by_cases h4 : x.kind = 4
  ·rw [if_pos h4] at he ⊢; exact go_kept _ _ _ he
  rw [if_neg h4] at he ⊢
  by_cases h5 : x.kind = 5
  ·rw [if_pos h5] at he ⊢; exact reset_kept _ _ he
  rw [if_neg h5] at he ⊢
  exact throw_kept _ _ _ he
 ·rw [e]
theorem do_req {c : Cf} {k : Kp} (h : FitP c k) (x : Ca) (hk : x.kind = 1) (he : (doM c k x).2 = 0) : ∃ j : Nat, x.n = j ∧ j < c.rts.length ∧ reqE c k j = 0 ∧ (doM c k x).1 = reqK c k x.now j := by
 rcases do_cases h x with ⟨-, e⟩ | e
 ·rw [e] at he ⊢
  unfold inner at he ⊢
  rw [if_pos hk] at he ⊢
  unfold reqM at he ⊢
  by_cases hi : isSecB c.rts.length x.n = false
  ·rw [if_pos hi] at he; cases he
  ·obtain ⟨j, hj, hl⟩ := isSec_nat hi
   rw [if_neg hi] at he ⊢
   by_cases hq : reqE c k x.n = 0
   ·rw [if_pos hq]
    rw [hj] at hq ⊢
    exact ⟨j, rfl, hl, hq, rfl⟩
   ·rw [if_neg hq] at he; exact absurd he hq
 ·rw [e] at he; cases he
theorem do_own {c : Cf} {k : Kp} (h : FitP c k) (x : Ca) (hk : x.kind ≠ 1) : (doM c k x).1.own = k.own := by
 rcases do_cases h x with ⟨-, e⟩ | e
 ·rw [e]
  unfold inner
  rw [if_neg hk]
  split
  ·unfold goM endK
   split
   ·rfl
   ·split <;> rfl
  ·split
   ·unfold restM
    split
    ·rfl
    ·split <;> rfl
   ·split
    ·unfold goM endK
     split
     ·rfl
     ·split <;> rfl
    ·split
     ·unfold resetM
      split
      ·rfl
      ·split <;> rfl
     ·unfold throwM
      split
      ·rfl
      ·split
       ·rfl
       ·split <;> rfl
 ·rw [e]
theorem do_own1 {c : Cf} {k : Kp} (h : FitP c k) (x : Ca) {j : Nat} (hj : j < c.rts.length) (s : Nat) (hs : s < k.own.length) :
  ownAt (reqK c k x.now j).own s = ownAt k.own s ∨ ownAt (reqK c k x.now j).own s = (j : Int) + 1 := by
 have e : ownAt (reqK c k x.now j).own s = if (locksM c.rts[j]).contains (s : Int) = true then (j : Int) + 1 else ownAt k.own s := by
  show ownAt (takeL ((j : Int) + 1) (locksM (rtAt c j)) k.own) s = _
  rw [rt_mem hj, takeL_at _ _ _ _ hs (fun z hz => (locks_in h.chk hj z hz).1)]
 rw [e]
 split
 ·exact .inr rfl
 ·exact .inl rfl
theorem exit_entry {c : Cf} (h : checkE c = 0) {j : Nat} (hj : j < c.rts.length) : c.rts[j].exit ≠ c.rts[j].entry := by
 intro e
 have a := (errR_parts (errs_at h hj)).1
 unfold routeB at a
 simp only [Bool.and_eq_true, decide_eq_true_eq] at a
 obtain ⟨a1, a2, a3, a4, a5, a6, ⟨a7, a8⟩, a9⟩ := a
 have hne : c.rts[j].exit ≠ -1 := by
  rw [e]
  have := sec_iff a1
  omega
 unfold endB at a8
 rw [if_neg hne, decide_eq_true_eq, e] at a8
 have hp : 0 < c.rts[j].path.length := a3
 have hl : lastSt c.rts[j].path ∈ c.rts[j].path := by
  unfold lastSt
  rw [List.getD_eq_getElem?_getD, List.getElem?_eq_getElem (by omega)]
  exact List.getElem_mem _
 have hn := (right_at h hj).locks (lastSt c.rts[j].path).sec (path_locks hj hl)
 exact hn.2 (by rw [a8]; rfl)
theorem do_inh {c : Cf} {k : Kp} (h : FitP c k) {j : Nat} (hj : j < c.rts.length) (he : reqE c k j = 0) (s : Nat) (hs : (s : Int) ∈ locksM c.rts[j]) (h0 : ownAt k.own s ≠ 0) :
  ∃ o : Nat, ownAt k.own s = (o : Int) + 1 ∧ o ≠ j ∧ ∃ ho : o < c.rts.length, c.rts[o].exit = c.rts[j].entry ∧ (s : Int) ∈ c.rts[o].over := by
 obtain ⟨-, -, h3, -⟩ := req_parts he
 rw [rt_mem hj, List.all_eq_true] at h3
 have hc := h3 s hs
 unfold canB at hc
 rw [Bool.or_eq_true, decide_eq_true_eq] at hc
 have hc := hc.resolve_left h0
 unfold inhB at hc
 rw [Bool.and_eq_true, Bool.and_eq_true, decide_eq_true_eq] at hc
 obtain ⟨q1, q2, q3⟩ := hc
 obtain ⟨o, e, ho⟩ := isSecB_true q1
 rw [e, Int.toNat_natCast] at q2 q3
 have e9 : c.rts.getD o default = c.rts[o] := by rw [List.getD_eq_getElem?_getD, List.getElem?_eq_getElem ho]; rfl
 rw [e9] at q2 q3
 refine ⟨o, by omega, fun e2 => ?_, ho, q2, by simpa using q3⟩
 subst e2
 exact exit_entry h.chk hj q2
end Go.Proofs.YtginfnbdnkgjbaaGreat.Lk
namespace Go.Proofs.YtginfnbdnkgjbaaGreat.Lk
open Go.RowKit
set_option maxRecDepth 100000 in
set_option maxHeartbeats 1000000 in
theorem rin_any {A : Option Addr} {c : Nat} (l : List Int) (n : Int) (w : World) (h : Rd w A (l.map (Value.int .i64))) (hl : l.length ≤ 9223372036854775807) :
  Calls Tryz.prog 70 #[.slice A l.length c, .int .i64 n] w fun e w' => e = .returned (.bool (l.contains n)) ∧ Fr (fun _ => False) w w' := by
 generalize hT : l.contains n = T
 have HT := Lib.hid hT
 clear hT
 go_enter Tryz.func70, Tryz.ntmps70
 go_wp2_with fail
 go_loopg [6, 9] l.length (fun gi _ v10 wr => ∃ (k : Nat), k ≤ l.length ∧ gi = l.length - k ∧ v10 = .int .i64 (k : Nat) ∧ (l.drop k).contains n = T ∧ Fr (fun _ => False) w wr)
 case atStart => exact ⟨0, Nat.zero_le _, rfl, rfl, HT.out, Fr.refl _ _⟩
 case round =>
  clear HT
  obtain ⟨k, hk, rfl, rfl, hT, f⟩ := hrel
  by_cases hlt : k < l.length
  ·obtain ⟨g, p, hA1, q0⟩ := rd_int (h.fr f fun _ _ => id) hlt
   rw [List.drop_eq_getElem_cons hlt, List.contains_cons] at hT
   generalize hR : (l.drop (k + 1)).contains n = R at hT
   have HR := Lib.hid hR
   clear hR
   generalize l[k] = x at *
   have i1 : (0 : Int) ≤ (k : Int) := by omega
   have i2 : (k : Int) < (l.length : Int) := by omega
   have i3 : (l.length : Int) ≤ 9223372036854775807 := by omega
   have HK := Lib.hid hlt
   have HFW := Lib.hid f
   rw [hA1]
   have HA1 := Lib.hid hA1
   clear hA1 hlt hk f h hl
   by_cases hx : n = x
   ·subst hx
    have hT : true = T := by rw [← hT]; simp
    subst hT
    go_wp2_with fail
    go_ret
    exact ⟨rfl, HFW.out⟩
   ·have hT : R = T := by rw [← hT]; simp [hx]
    have HT := Lib.hid hT
    have e1 : (x == n) = false := by rw [beq_eq_false_iff_ne]; exact fun e => hx e.symm
    clear hx hT
    go_wp2_with fail
    rw [← HA1.out]
    go_roundg (l.length - (k + 1))
    case measure => have := HK.out; omega
    case rel => exact ⟨k + 1, by have := HK.out; omega, rfl, by go_num, HR.out.trans HT.out, HFW.out⟩
  ·rw [List.drop_eq_nil_of_le (by omega)] at hT
   have hT : false = T := hT
   subst hT
   go_wp2_with fail
   go_ret
   exact ⟨rfl, f⟩
set_option maxRecDepth 100000 in
set_option maxHeartbeats 4000000 in
theorem rinherits_true {C : Cm} {K : Km} {w : World} (hC : C.Ok w) (hK : K.Ok w) {o r s : Nat} (hs : s < K.own.length) (ho : o < C.rs.length) (hr : r < C.rs.length) (hos : K.own[s] = (o : Int) + 1) (hne : o ≠ r) (he : C.rs[o].exit = C.rs[r].entry) (hv : (s : Int) ∈ C.rs[o].over) :
  Calls Tryz.prog 27 #[C.val, K.val, .int .i64 (r : Int), .int .i64 (s : Int)] w fun e w' => e = .returned (.bool true) ∧ Fr (fun _ => False) w w' := by
 have HF := Lib.hid (((Fr.refl (fun _ => False) w).alloc (.cells C.arr 30)).alloc (.cells K.arr 35))
 have HIC := Lib.hid ((Is.new w 30 C.arr).alloc (.cells K.arr 35))
 have HIK := Lib.hid (Is.new (w.alloc (.cells C.arr 30)) 35 K.arr)
 rw [show (w.alloc (.cells C.arr 30)).heap.size = w.heap.size + 1 by simp] at HIK
 have HC := Lib.hid hC
 have HK := Lib.hid hK
 have HO := Lib.hid (hC.each _ (List.getElem_mem ho))
 have b5 : C.rs.length * 96 ≤ 140737488351232 := hC.b5
 have KI : ∀ W, Fr (fun _ => False) w W → Calls Tryz.prog 70 #[.slice (C.rs[o]).a3 (C.rs[o]).over.length (C.rs[o]).c3, .int .i64 (s : Int)] W fun e w' => e = .returned (.bool true) ∧ Fr (fun _ => False) W w' := fun W f => by
  have := rin_any (c := (C.rs[o]).c3) (C.rs[o]).over (s : Int) W (HO.out.fr f).over (by have := HO.out.b3; omega)
  rw [show (C.rs[o]).over.contains (s : Int) = true by simpa using hv] at this
  exact this
 unfold Cm.val Km.val Cm.arr Km.arr at *
 go_enter Tryz.func27, Tryz.ntmps27
 go_upto_region 1 with fail
 generalize (w.alloc _).alloc _ = w0 at *
 generalize hz : w.heap.size = z at *
 clear hz
 obtain ⟨g1, o1, hA1, q0⟩ := rd_int (hK.fr HF.out).own hs
 rw [hos] at q0
 obtain ⟨g, p, hA5, x0, x1, x2, x3, x4, x5⟩ := rd_ro (hC.fr HF.out).rts ho
 obtain ⟨g', p', hA6, y0, -⟩ := rd_ro (hC.fr HF.out).rts hr
 have hA6 := hA6
 rw [hA5] at hA6
 injection hA6 with hA6
 injection hA6 with e1 e2
 subst e1 e2
 rw [he] at x1
 have d1 : ((o : Int) == (r : Int)) = false := by rw [beq_eq_false_iff_ne]; omega
 have d2 : ((o : Int) != (r : Int)) = true := by rw [bne_iff_ne]; omega
 have d3 : (o == r) = false := by rw [beq_eq_false_iff_ne]; exact hne
 have d4 : (o != r) = true := by rw [bne_iff_ne]; exact hne
 have c4 := HIC.out.cell 4
 have k0 := HIK.out.cell 0
 simp only [List.getElem?_toArray, List.getElem?_cons_succ, List.getElem?_cons_zero] at c4 k0
 rw [hA5] at c4
 rw [hA1] at k0
 have i1 : (0 : Int) ≤ (s : Int) := by omega
 have i2 : (s : Int) < (K.own.length : Int) := by omega
 have i3 : (0 : Int) ≤ (o : Int) := by omega
 have i4 : (o : Int) < (C.rs.length : Int) := by omega
 have i5 : (0 : Int) ≤ (r : Int) := by omega
 have i6 : (r : Int) < (C.rs.length : Int) := by omega
 have i7 : (C.rs.length : Int) ≤ 140737488351232 := by omega
 have e9 : IntKind.i64.wrap ((o : Int) + 1 - 1) = (o : Int) := by rw [show (o : Int) + 1 - 1 = o by omega]; exact IntWalk.i64_in _ ⟨by omega, by omega⟩
 generalize C.rs[r].entry = er at *
 generalize C.rs[o] = ro at *
 clear hC hK hs ho hr hos hne he hv hA1 hA5 HO b5
 go_upto_region 2 with fail
 simp only [show (o : Int) + 1 - 1 = (o : Int) by omega] at *
 have c4 := cell_fro c4
 have k0 := cell_fro k0
 have q0 := cell_fro q0
 have x1 := cell_fro x1
 have y0 := cell_fro y0
 have x4 := cell_fro x4
 have KI : ∀ u : Fro w0, _ := fun u => KI _ (fr_nil HF.out u.f)
 refine region_fro (by kernel_rfl) (by kernel_rfl) ?_
 repeat (go_big_quiet_step (first | (go_at_call 70; with_reducible exact call_fro (KI _))))
 refine wpQuiet_nil ?_
 rintro w3 ⟨⟨w9, f3⟩, hww⟩
 replace hww : w3 = w9 := hww
 subst hww
 go_wp2_with fail
 go_ret
 exact ⟨rfl, fr_nil HF.out f3⟩
end Go.Proofs.YtginfnbdnkgjbaaGreat.Lk
namespace Go.Proofs.YtginfnbdnkgjbaaGreat.Lk
open Go.ChangeShapes Go.WideShapes Go.ChangeAt Go.RowKit Go.Deep Go.Joins
theorem cellsCa : Tryz.prog.cellsOf 37 = 4 := by kernel_rfl
theorem bytesCa : Tryz.prog.bytesOf 37 = 32 := by kernel_rfl
section
variable {H : Type} {enc : TypeId × Value → H} {w : World} {base : Nat}
set_option maxRecDepth 100000 in
theorem ca_of {n : Nat} {cs : List Value} {y : DataW H × List MemPlace} (h : DataW.trod enc Tryz.prog w 0 (fun _ => true) true n 37 cs = some y) : ∃ s : Ca, cs = s.cells ∧ I64 [s.kind, s.now, s.n, s.pos] := by
 obtain ⟨xs, m, _, hx, hlen, hxl, hf⟩ := DataW.trod_struct Tryz.underlying37 h
 rw [cellsCa] at hlen
 match cs, hlen with
 | [c0, c1, c2, c3], _ =>
  match xs, hxl with
  | [x0, x1, x2, x3], _ =>
   have h0 : DataW.trod enc Tryz.prog w 0 (fun _ => true) true m 3 (([c0, c1, c2, c3].drop 0).take (Tryz.prog.cellsOf 3)) = some x0 := hf 0 _ rfl
   have h1 : DataW.trod enc Tryz.prog w 0 (fun _ => true) true m 3 (([c0, c1, c2, c3].drop 1).take (Tryz.prog.cellsOf 3)) = some x1 := hf 1 _ rfl
   have h2 : DataW.trod enc Tryz.prog w 0 (fun _ => true) true m 3 (([c0, c1, c2, c3].drop 2).take (Tryz.prog.cellsOf 3)) = some x2 := hf 2 _ rfl
   have h3 : DataW.trod enc Tryz.prog w 0 (fun _ => true) true m 3 (([c0, c1, c2, c3].drop 3).take (Tryz.prog.cellsOf 3)) = some x3 := hf 3 _ rfl
   rw [Tryz.cellInt] at h0 h1 h2 h3
   obtain ⟨a, rfl, na⟩ := int_of (show DataW.trod enc Tryz.prog w 0 (fun _ => true) true m 3 [c0] = some x0 from h0)
   obtain ⟨b, rfl, nb⟩ := int_of (show DataW.trod enc Tryz.prog w 0 (fun _ => true) true m 3 [c1] = some x1 from h1)
   obtain ⟨c, rfl, nc⟩ := int_of (show DataW.trod enc Tryz.prog w 0 (fun _ => true) true m 3 [c2] = some x2 from h2)
   obtain ⟨d, rfl, nd⟩ := int_of (show DataW.trod enc Tryz.prog w 0 (fun _ => true) true m 3 [c3] = some x3 from h3)
   exact ⟨⟨a, b, c, d⟩, rfl, fun n hn => by simp only [List.mem_cons, List.not_mem_nil, or_false] at hn; rcases hn with rfl | rfl | rfl | rfl <;> assumption⟩
set_option maxRecDepth 100000 in
theorem open_calls {v : Value} {d : DataW H} {ps : List MemPlace} (hv : Value.okWide Tryz.prog w .any base 56 v) (h : DataW.Trod enc Tryz.prog w 0 (fun _ => true) true 56 v d ps) :
  ∃ (A : Option Addr) (c : Nat) (l : List Ca), v = .slice A l.length c ∧ Rd w A (l.flatMap Ca.cells) ∧ SL d l.length ∧ ∀ s ∈ l, I64 [s.kind, s.now, s.n, s.pos] := by
 obtain ⟨a0, len0, cap0, rfl⟩ := okWide_slice Tryz.underlying56 hv
 obtain ⟨fuel, hf⟩ := h
 obtain ⟨A, c, l, e, r, -, -, s⟩ := open_flatQ (fun (s : Ca) _ => I64 [s.kind, s.now, s.n, s.pos]) 4 Ca.cells (fun _ => rfl) Tryz.underlying56 cellsCa (fun _ _ _ h => by obtain ⟨a, e, k⟩ := ca_of h; exact ⟨a, e, k⟩) hf
 refine ⟨A, c, l, e, r, ?_⟩
 rcases s with ⟨a, b⟩ | ⟨es, rest, a, b, q⟩
 ·exact ⟨.inl ⟨a, by rw [b]; rfl⟩, fun s hs => by rw [b] at hs; cases hs⟩
 ·refine ⟨.inr ⟨es, rest, a, b⟩, fun s hs => ?_⟩
  obtain ⟨i, hi, rfl⟩ := List.getElem_of_mem hs
  obtain ⟨_, _, k⟩ := q i hi
  exact k
theorem calls_size {ts : List TypeId} {ds : List (DataW H)} (hsz : (DataW.weightsEach Tryz.prog ts ds).all (· ≤ reachBytes) = true) {j : Nat} {d : DataW H} {n : Nat} (ht : ts[j]? = some 56) (hd : ds[j]? = some d) (s : SL d n) : n * 32 ≤ 140737488351232 :=
 sl_size hsz s Tryz.underlying56 bytesCa fun _ hk => DataW.weights_mem_each ht hd _ hk
end
theorem rd_ca {w : World} {A : Option Addr} {l : List Ca} (h : Rd w A (l.flatMap Ca.cells)) {j : Nat} (hj : j < l.length) : ∃ g o, A = some ⟨g, o, none⟩ ∧ w.cell? ⟨g, o + j * 4, none⟩ = some (.int .i64 l[j].kind) ∧ w.cell? ⟨g, o + j * 4 + 1, none⟩ = some (.int .i64 l[j].now) ∧ w.cell? ⟨g, o + j * 4 + 2, none⟩ = some (.int .i64 l[j].n) ∧ w.cell? ⟨g, o + j * 4 + 3, none⟩ = some (.int .i64 l[j].pos) := by
 obtain ⟨b, o, hA, _, hc⟩ := rd_flat Ca.cells (n := 4) (fun _ => rfl) h hj (by decide)
 exact ⟨b, o, hA, hc 0 _ (by decide) rfl, hc 1 _ (by decide) rfl, hc 2 _ (by decide) rfl, hc 3 _ (by decide) rfl⟩
end Go.Proofs.YtginfnbdnkgjbaaGreat.Lk
namespace Go.Proofs.YtginfnbdnkgjbaaGreat.Lk.Ow
theorem locks_short {C : Cm} (h : checkE C.cf = 0) : ∀ r ∈ C.rs, (r.over.length + (r.path.length + r.flank.length)) * 8 ≤ 70368744177664 := fun r hr => by
 have := right_short (routesE_zero (check_parts h).2.2.2.2.1 r.rt (List.mem_map_of_mem hr))
 have a : r.flank.length ≤ 32 := this.1
 have b : r.over.length ≤ 1 := this.2.1
 have c : r.path.length ≤ 8 := this.2.2
 omega
theorem rt_ro {C : Cm} {j : Nat} (hj : j < C.rs.length) : rtAt C.cf j = C.rs[j].rt := by
 rw [rt_mem (c := C.cf) (by unfold Cm.cf; simpa using hj)]
 unfold Cm.cf
 simp
theorem locksR_at {C : Cm} {j : Nat} (hj : j < C.rs.length) : locksR C (j : Int) = locksM C.rs[j].rt := by
 unfold locksR
 rw [if_pos (by unfold isSecB; simp; omega), Int.toNat_natCast, rs_at hj]
theorem own_len9 {w : World} {B c : Nat} {A : Option Addr} {L : List Int} (h : w.ownsRow B 3 1 (.slice A L.length c) L.length (L.map (Value.int .i64))) : L.length ≤ 9223372036854775807 := by
 obtain ⟨A2, c2, e, hle, hm, -, -⟩ := wide_form h
 unfold maxLen at hm
 omega
theorem locked_own {c : Cf} (h : checkE c = 0) {k : Kp} (hl : k.own.length = c.secs.length) {now : Int} {j : Nat} (hj : j < c.rts.length) : ∀ s ∈ locksM (rtAt c j), 0 ≤ s ∧ s < c.secs.length ∧ ownAt (reqK c k now j).own s = j + 1 := by
 intro s hs
 rw [rt_mem hj] at hs
 obtain ⟨h0, h1⟩ := locks_in h hj s hs
 obtain ⟨i, rfl⟩ := Int.eq_ofNat_of_zero_le h0
 refine ⟨h0, h1, ?_⟩
 show ownAt (takeL ((j : Int) + 1) (locksM (rtAt c j)) k.own) i = _
 rw [rt_mem hj, takeL_at _ _ _ _ (by omega) (fun z hz => (locks_in h hj z hz).1), if_pos (by simpa using hs)]
end Go.Proofs.YtginfnbdnkgjbaaGreat.Lk.Ow
namespace Go.Proofs.YtginfnbdnkgjbaaGreat.Lk
open Go.RowKit Ow
theorem own_len8 {w : World} {B c : Nat} {A : Option Addr} {L : List Int} (h : w.ownsRow B 3 1 (.slice A L.length c) L.length (L.map (Value.int .i64))) : L.length ≤ 9223372036854775807 := own_len9 h
theorem FitP.own_free {c : Cf} {k : Kp} (h : FitP c k) (j : Nat) : FitP c { k with own := k.own.set j 0 } :=
 h.with_own (List.length_set ..) (all_set (p := inB (-2) c.rts.length) h.own (inB_iff.2 (by omega)))
set_option maxRecDepth 100000 in
set_option maxHeartbeats 16000000 in
theorem rows_walk {C : Cm} {w : World} (hC : C.Ok w) {Af As : Option Addr} {cf cs : Nat} (lf : List Int) (ls : List Ca) (hf : Rd w Af (lf.map (Value.int .i64))) (hs : Rd w As (ls.flatMap Ca.cells)) (hbf : lf.length * 8 ≤ 140737488351232) (hbs : ls.length * 32 ≤ 140737488351232) (h64 : ∀ s ∈ ls, I64 [s.kind, s.now, s.n, s.pos]) :
  Calls Tryz.prog 5 #[C.val, .slice Af lf.length cf, .slice As ls.length cs] w fun e w' => e = .returned (.bool true) ∧ Fr (fun _ => False) w w' := by
 have HC := Lib.hid hC
 have HF := Lib.hid ((Fr.refl (fun _ => False) w).alloc (.cells C.arr 30))
 have HI := Lib.hid (Is.new w 30 C.arr)
 have KC := fun W (f : Fr (fun _ => False) w W) => rck_any C W (hC.fr f)
 have KN := fun W (f : Fr (fun _ => False) w W) hcr => new_any W (hC.fr f) hcr 0
 have HFR := Lib.hid hf
 have HSC := Lib.hid hs
 have HBF := Lib.hid hbf
 have HBS := Lib.hid hbs
 have H64 := Lib.hid h64
 clear hf hs hbf hbs h64
 clear hC
 unfold Cm.val Cm.arr at *
 go_enter Tryz.func5, Tryz.ntmps5
 go_wp2_with fail
 generalize w.alloc _ = w0 at *
 refine (lives13_any _).mono ?_
 rintro _ w1 ⟨rfl, f1⟩
 have HF := Lib.hid (fr_nil HF.out f1)
 have HI := Lib.hid (HI.out.fr f1 id)
 clear f1
 generalize hcb : w.heap.size = cb at HI ⊢
 have HCB := Lib.hid hcb
 clear hcb
 obtain ⟨p0, p1, p2, p3, p4, p5, p6, p7, p8⟩ := conf_cells0 HI.out
 go_wp2_with fail
 refine (KC _ HF.out).mono ?_
 rintro _ w2 ⟨rfl, f2⟩
 have HF := Lib.hid (fr_nil HF.out f2)
 have HI := Lib.hid (HI.out.fr f2 id)
 clear f2 KC p0 p1 p2 p3 p4 p5 p6 p7 p8
 obtain ⟨p0, p1, p2, p3, p4, p5, p6, p7, p8⟩ := conf_cells0 HI.out
 by_cases hck : checkE C.cf = 0
 rotate_left
 ·have d1 : (checkE C.cf == 0) = false := by simpa using hck
  have d2 : (checkE C.cf != 0) = true := by simpa using hck
  go_wp2_with fail
  go_ret
  exact ⟨rfl, HF.out⟩
 rw [hck]
 have hsm : C.l.length ≤ 24 ∧ C.cr.length ≤ 4 ∧ C.rs.length ≤ 12 := by
  have h := right_small hck
  unfold Cm.cf at h
  simpa using h
 have HSM := Lib.hid hsm
 have HCK := Lib.hid hck
 clear hck hsm
 have KN := KN w2 HF.out (by have := HSM.out; omega)
 go_wp2_with fail
 refine KN.mono ?_
 rintro _ w3 ⟨K, rfl, hk, ho, f3⟩
 have HFIT : Hid (FitP C.cf K.kp) := Lib.hid (by rw [hk]; exact new_fit HCK.out (by decide))
 have HBX := Lib.hid (bx_made ho f3)
 clear hk ho f3 KN p0 p1 p2 p3 p4 p5 p6 p7 p8
 unfold Km.val Km.arr
 go_upto_region 6 with fail
 generalize hw4 : World.alloc _ _ = w4 at *
 generalize w3.heap.size = kb at *
 clear hw4
 have t3 : (lf.length : Int) ≤ 9223372036854775807 := by have := HBF.out; omega
 go_wp2_with fail
 go_loopw [26] (fun v wr => ∃ (q : Nat) (o : List Int), q ≤ lf.length ∧ v = .int .i64 (q : Nat) ∧ Bx w2 wr kb { K with own := o } ∧ FitP C.cf ({ K with own := o } : Km).kp) (fun v _ => lf.length - (intOf v).toNat)
 case atStart => exact ⟨0, K.own, Nat.zero_le _, rfl, HBX.out, HFIT.out⟩
 case round =>
  clear HBX HFIT
  obtain ⟨q, o, hq, rfl, hbx, hfit⟩ := hrel
  have HZ := Lib.hid hbx
  have HFI := Lib.hid hfit
  clear hbx hfit
  have HOL : Hid (o.length = C.l.length) := Lib.hid HFI.out.l1
  by_cases hlt : q < lf.length
  ·obtain ⟨g, p, hA1, q0⟩ := rd_int (HFR.out.fr (fr_nil HF.out HZ.out.f) fun _ _ => id) hlt
   have HLT := Lib.hid hlt
   have t1 : (0 : Int) ≤ (q : Int) := by omega
   have t2 : (q : Int) < (lf.length : Int) := by omega
   generalize lf[q] = x at *
   rw [hA1]
   have HA1 := Lib.hid hA1
   clear hA1 hlt hq
   by_cases hx : 0 ≤ x
   ·obtain ⟨t, rfl⟩ := Int.eq_ofNat_of_zero_le hx
    by_cases hxl : t < o.length
    ·have hA9 := own_some (h := HZ.out.own.own) (by show 0 < o.length; omega)
     obtain ⟨g1, hB, -, -⟩ := hA9
     have hB : K.A1 = some ⟨g1, 0, none⟩ := hB
     have HVN := Lib.hid (HZ.out.owner (K := { K with own := o }) (j := t) hxl hB 0)
     have HFN := Lib.hid (HFI.out.own_free t)
     have oo : wr.ownsRow w2.heap.size 3 1 (.slice (some ⟨g1, 0, none⟩) o.length K.c1) o.length (o.map (Value.int .i64)) := by rw [← hB]; exact HZ.out.own.own
     obtain ⟨g9, o9, e9, cc⟩ := rd_int (wide_rd oo) hxl
     injection e9 with e9
     injection e9 with e1 e2
     subst e1 e2
     simp only [Nat.zero_add] at cc
     have zz := oo.frozenAt t
     have c0 := HZ.out.is.cell 0
     simp only [Km.arr, List.getElem?_toArray, List.getElem?_cons_zero] at c0
     rw [hB] at c0
     have t4 : (t : Int) < (o.length : Int) := by omega
     clear oo hB hx
     go_wp2_with fail
     try rw [← HA1.out]
     go_roundw
     case rel => exact ⟨q + 1, o.set t 0, by have := HLT.out; omega, by go_num, HVN.out, HFN.out⟩
     case measure => have := HLT.out; simp [intOf]; omega
    ·have c0 := HZ.out.is.cell 0
     simp only [Km.arr, List.getElem?_toArray, List.getElem?_cons_zero] at c0
     have d1 : decide ((t : Int) < (o.length : Int)) = false := decide_eq_false (by omega)
     have d2 : decide (t < o.length) = false := decide_eq_false (by omega)
     clear hx hxl
     go_wp2_with fail
     try rw [← HA1.out]
     go_roundw
     case rel => exact ⟨q + 1, o, by have := HLT.out; omega, by go_num, HZ.out, HFI.out⟩
     case measure => have := HLT.out; simp [intOf]; omega
   ·have d1 : decide (0 ≤ x) = false := decide_eq_false hx
    clear hx
    go_wp2_with fail
    try rw [← HA1.out]
    go_roundw
    case rel => exact ⟨q + 1, o, by have := HLT.out; omega, by go_num, HZ.out, HFI.out⟩
    case measure => have := HLT.out; simp [intOf]; omega
  ·have hqn : q = lf.length := by omega
   subst hqn
   clear hlt hq HOL
   generalize ({ K with own := o } : Km) = K0 at *
   have t4 : (ls.length : Int) ≤ 9223372036854775807 := by have := HBS.out; omega
   go_wp2_with fail
   go_loopw [46] (fun v wr => ∃ (q : Nat) (K : Km), q ≤ ls.length ∧ v = .int .i64 (q : Nat) ∧ Bx w2 wr kb K ∧ FitP C.cf K.kp) (fun v _ => ls.length - (intOf v).toNat)
   case atStart => exact ⟨0, K0, Nat.zero_le _, rfl, HZ.out, HFI.out⟩
   case round =>
    clear HZ HFI
    obtain ⟨q, K, hq, rfl, hbx, hfit⟩ := hrel
    have HB := Lib.hid hbx
    have HFI := Lib.hid hfit
    clear hbx hfit
    by_cases hlt : q < ls.length
    ·obtain ⟨g, p, hA1, q0, q1, q2, q3⟩ := rd_ca (HSC.out.fr (fr_nil HF.out HB.out.f) fun _ _ => id) hlt
     have HLT := Lib.hid hlt
     have t1 : (0 : Int) ≤ (q : Int) := by omega
     have t2 : (q : Int) < (ls.length : Int) := by omega
     have HX64 : Hid (I64 [(ls[q]'hlt).kind, (ls[q]'hlt).now, (ls[q]'hlt).n, (ls[q]'hlt).pos]) := Lib.hid (H64.out _ (List.getElem_mem hlt))
     generalize ls[q]'hlt = x at *
     rw [hA1]
     have HA1 := Lib.hid hA1
     clear hA1 hlt hq
     go_upto_region 15 with fail
     have HXB := Lib.hid (Is.new wr 37 #[.int .i64 x.kind, .int .i64 x.now, .int .i64 x.n, .int .i64 x.pos])
     have FA := (Fr.refl (fun _ => False) wr).alloc (.cells #[.int .i64 x.kind, .int .i64 x.now, .int .i64 x.n, .int .i64 x.pos] 37)
     have HB := Lib.hid (HB.out.fr FA)
     generalize hwx : wr.alloc _ = w5 at *
     generalize wr.heap.size = xb at *
     clear hwx q0 q1 q2 q3 FA
     have HSZ := Lib.hid HB.out.f.size
     have HF5 := Lib.hid (fr_nil HF.out HB.out.f)
     have HI5 := Lib.hid (HI.out.fr HB.out.f id)
     have HKO : Hid (K.Ok w5) := Lib.hid (fit_ok HB.out.own HFI.out)
     have KD := do_any C K w5 (HC.out.fr HF5.out) HKO.out x
     unfold Cm.val Cm.arr Km.val Km.arr at KD
     have HDO := Lib.hid (do_ok HFI.out x)
     obtain ⟨p0, p1, p2, p3, p4, p5, p6, p7, p8⟩ := conf_cells0 HI5.out
     obtain ⟨k0, k1, k2, k3, k4, k5, k6⟩ := core_cells (K := K) HB.out.is
     obtain ⟨x0, x1, x2, x3⟩ := four9 HXB.out
     go_wp2_with fail
     refine KD.mono ?_
     rintro _ wq ⟨K2, rfl, hk2, ho2, f2⟩
     clear KD p0 p1 p2 p3 p4 p5 p6 p7 p8 k0 k1 k2 k3 k4 k5 k6 x0 x1 x2 x3
     have HB2 := Lib.hid (bx_made ho2 f2)
     have HK2 := Lib.hid hk2
     have HFI2 : Hid (FitP C.cf K2.kp) := Lib.hid (by rw [hk2]; exact HDO.out)
     clear ho2 f2 hk2
     unfold Km.val Km.arr
     generalize hev : (doM C.cf K.kp x).2 = ev
     have HEV := Lib.hid hev
     clear hev
     go_upto_region 16 with fail
     generalize hw6 : World.alloc _ _ = w6 at *
     generalize wq.heap.size = nb at *
     clear hw6
     have HF6 := Lib.hid (fr_nil HF5.out HB2.out.f)
     have HI6 := Lib.hid (HI5.out.fr HB2.out.f id)
     have HB6 := Lib.hid (HB.out.fr HB2.out.f)
     have HX6 := Lib.hid (HXB.out.fr HB2.out.f id)
     have HKO6 := Lib.hid (HKO.out.fr HB2.out.f)
     have HKN : Hid (K2.Ok w6) := Lib.hid (fit_ok HB2.out.own HFI2.out)
     have KF := fits_any C K2 w6 (HC.out.fr HF6.out) HKN.out
     rw [fits_iff.2 HFI2.out] at KF
     unfold Cm.val Cm.arr Km.val Km.arr at KF
     obtain ⟨p0, p1, p2, p3, p4, p5, p6, p7, p8⟩ := conf_cells0 HI6.out
     obtain ⟨m0, m1, m2, m3, m4, m5, m6⟩ := core_cells (K := K2) HB2.out.is
     go_wp2_with fail
     refine KF.mono ?_
     rintro _ w7 ⟨rfl, f7⟩
     have HF7 := Lib.hid (fr_nil HB2.out.f f7)
     have HB7 := Lib.hid (HB6.out.fr f7)
     have HN7 := Lib.hid (HB2.out.fr f7)
     have HI7 := Lib.hid (HI6.out.fr f7 id)
     have HX7 := Lib.hid (HX6.out.fr f7 id)
     have HKO7 := Lib.hid (HKO6.out.fr f7)
     have HKN7 := Lib.hid (HKN.out.fr f7)
     clear KF p0 p1 p2 p3 p4 p5 p6 p7 p8 m0 m1 m2 m3 m4 m5 m6 f7 HB HF6 HI6 HB6 HX6 HKO6 HKN HB2 HI5 HXB HKO HDO
     by_cases he : ev = 0
     rotate_left
     ·have hkk : K2.kp = K.kp := HK2.out.trans (do_kept HFI.out x (by rw [HEV.out]; exact he))
      have HQ : Hid (∀ (s : Nat) (h2 : s < K2.own.length) (h1 : s < K.own.length), K2.own[s] = K.own[s] ∨ x.kind = 1 ∧ ∃ j : Nat, x.n = j ∧ j < 12 ∧ K2.own[s] = (j : Int) + 1) := Lib.hid fun s h2 h1 => .inl (by
       have e : K2.own = K.own := congrArg Kp.own hkk
       simp [e])
      have KS := same_any K2 K w7 HKN7.out HKO7.out hkk
      unfold Km.val Km.arr at KS
      have d1 : (ev == 0) = false := by rw [beq_eq_false_iff_ne]; exact he
      have d2 : (ev != 0) = true := by rw [bne_iff_ne]; exact he
      obtain ⟨k0, k1, k2, k3, k4, k5, k6⟩ := core_cells (K := K) HB7.out.is
      obtain ⟨m0, m1, m2, m3, m4, m5, m6⟩ := core_cells (K := K2) HN7.out.is
      clear he hkk
      go_wp2_with fail
      refine KS.mono ?_
      rintro _ w8 ⟨rfl, f8⟩
      have HB8 := Lib.hid (HB7.out.fr f8)
      have HN8 := Lib.hid (HN7.out.fr f8)
      have HX8 := Lib.hid (HX7.out.fr f8 id)
      clear KS k0 k1 k2 k3 k4 k5 k6 m0 m1 m2 m3 m4 m5 m6 f8 HB7 HN7 HI7 HX7 HKO7 HKN7
      go_upto_region 25 with fail
      clear d1 d2
      have hl2 : K2.own.length = K.own.length := by
       have a : K2.own.length = C.cf.secs.length := HFI2.out.l1
       have b : K.own.length = C.cf.secs.length := HFI.out.l1
       omega
      have HL2 := Lib.hid hl2
      have c2 := HN8.out.is.cell 0
      simp only [Km.arr, List.getElem?_toArray, List.getElem?_cons_zero] at c2
      have t9 : (K2.own.length : Int) ≤ 9223372036854775807 := by have := own_len8 HN8.out.own.own; omega
      clear hl2
      go_wp2_with fail
      clear c2
      go_loopw [117] (fun v wr => ∃ (s : Nat), s ≤ K2.own.length ∧ v = .int .i64 (s : Nat) ∧ Fr (fun _ => False) w8 wr) (fun v _ => K2.own.length - (intOf v).toNat)
      case atStart => exact ⟨0, Nat.zero_le _, rfl, Fr.refl _ _⟩
      case round =>
       obtain ⟨s, hs, rfl, f⟩ := hrel
       have HB := Lib.hid (HB8.out.fr f)
       have HN := Lib.hid (HN8.out.fr f)
       have HX := Lib.hid (HX8.out.fr f id)
       have HFW := Lib.hid f
       clear f
       by_cases hst : s < K2.own.length
       ·have hs1 : s < K.own.length := by have := HL2.out; omega
        obtain ⟨g1, o1, hA1, a0⟩ := rd_int (wide_rd HN.out.own.own) hst
        obtain ⟨g2, o2, hA2, b0⟩ := rd_int (wide_rd HB.out.own.own) hs1
        have c1 := HN.out.is.cell 0
        have c2 := HB.out.is.cell 0
        simp only [Km.arr, List.getElem?_toArray, List.getElem?_cons_zero] at c1 c2
        rw [hA1] at c1
        rw [hA2, ← HL2.out] at c2
        obtain ⟨x0, -, x2, -⟩ := four9 HX.out
        have u1 : (0 : Int) ≤ (s : Int) := by omega
        have u2 : (s : Int) < (K2.own.length : Int) := by omega
        have hq := HQ.out s hst hs1
        have HST := Lib.hid hst
        generalize K2.own[s]'hst = za at *
        generalize K.own[s]'hs1 = zb at *
        clear hA1 hA2 hs hst hs1
        by_cases hz : za = zb
        ·subst hz
         have d1 : (za != za) = false := by simp
         have d2 : (za == za) = true := by simp
         clear hq
         go_wp2_with fail
         go_quiet (fail)
         go_wp2_with fail
         go_roundw
         case rel => exact ⟨s + 1, by have := HST.out; omega, by go_num, HFW.out.drewN nq⟩
         case measure => have := HST.out; simp [intOf]; omega
        ·obtain ⟨hk1, j, hj, hj12, hza⟩ := hq.resolve_left hz
         rw [hk1] at x0
         rw [hj] at x2
         subst hza
         have d1 : ((j : Int) + 1 == zb) = false := by rw [beq_eq_false_iff_ne]; exact hz
         have d2 : ((j : Int) + 1 != zb) = true := by rw [bne_iff_ne]; exact hz
         have j1 : (0 : Int) ≤ (j : Int) := by omega
         have j2 : (j : Int) ≤ 12 := by omega
         clear hq hz hk1 hj hj12
         go_wp2_with fail
         go_quiet (fail)
         go_wp2_with fail
         go_roundw
         case rel => exact ⟨s + 1, by have := HST.out; omega, by go_num, HFW.out.drewN nq⟩
         case measure => have := HST.out; simp [intOf]; omega
       ·have hsn : s = K2.own.length := by omega
        subst hsn
        clear hst hs
        have isr := HB.out.is
        obtain ⟨k0, k1, k2, k3, k4, k5, k6⟩ := core_cells (K := K) HB.out.is
        obtain ⟨m0, m1, m2, m3, m4, m5, m6⟩ := core_cells (K := K2) HN.out.is
        have HO2 := Lib.hid (HN.out.own.base HSZ.out)
        have z0 := isr.frozen 0
        have z1 := isr.frozen 1
        have z2 := isr.frozen 2
        have z3 := isr.frozen 3
        have z4 := isr.frozen 4
        have z5 := isr.frozen 5
        have z6 := isr.frozen 6
        go_wp2_with fail
        clear k0 k1 k2 k3 k4 k5 k6 m0 m1 m2 m3 m4 m5 m6 z0 z1 z2 z3 z4 z5 z6
        have isR := (((((((isr.set 0 (.slice K2.A1 K2.own.length K2.c1)).set 1 (.slice K2.A2 K2.rts.length K2.c2)).set 2 (.slice K2.A3 K2.pts.length K2.c3)).set 3 (.slice K2.A4 K2.crs.length K2.c4)).set 4 (.slice K2.A5 K2.lns.length K2.c5)).set 5 (.slice K2.A6 K2.rss.length K2.c6)).set 6 (.bool K2.dirty))
        have fR := ((((((((Fr.refl (fun q => q = kb) wr).setCell (p := ⟨kb, 0, none⟩) (.inl rfl) (.slice K2.A1 K2.own.length K2.c1)).setCell (p := ⟨kb, 1, none⟩) (.inl rfl) (.slice K2.A2 K2.rts.length K2.c2)).setCell (p := ⟨kb, 2, none⟩) (.inl rfl) (.slice K2.A3 K2.pts.length K2.c3)).setCell (p := ⟨kb, 3, none⟩) (.inl rfl) (.slice K2.A4 K2.crs.length K2.c4)).setCell (p := ⟨kb, 4, none⟩) (.inl rfl) (.slice K2.A5 K2.lns.length K2.c5)).setCell (p := ⟨kb, 5, none⟩) (.inl rfl) (.slice K2.A6 K2.rss.length K2.c6)).setCell (p := ⟨kb, 6, none⟩) (.inl rfl) (.bool K2.dirty))
        try simp only [List.setIfInBounds_toArray, List.set_cons_zero, List.set_cons_succ] at isR
        have HBN : Hid (Bx w2 (((((((wr.setCell ⟨kb, 0, none⟩ (.slice K2.A1 K2.own.length K2.c1)).setCell ⟨kb, 1, none⟩ (.slice K2.A2 K2.rts.length K2.c2)).setCell ⟨kb, 2, none⟩ (.slice K2.A3 K2.pts.length K2.c3)).setCell ⟨kb, 3, none⟩ (.slice K2.A4 K2.crs.length K2.c4)).setCell ⟨kb, 4, none⟩ (.slice K2.A5 K2.lns.length K2.c5)).setCell ⟨kb, 5, none⟩ (.slice K2.A6 K2.rss.length K2.c6)).setCell ⟨kb, 6, none⟩ (.bool K2.dirty)) kb K2) := Lib.hid ⟨isR, HO2.out.fr fR fun k hk e => HO2.out.ne_is isr (by decide) (by decide) (by decide) (by decide) (e ▸ hk), (((((((HB.out.f.setCell (p := ⟨kb, 0, none⟩) (.inr HB.out.hb) (.slice K2.A1 K2.own.length K2.c1)).setCell (p := ⟨kb, 1, none⟩) (.inr HB.out.hb) (.slice K2.A2 K2.rts.length K2.c2)).setCell (p := ⟨kb, 2, none⟩) (.inr HB.out.hb) (.slice K2.A3 K2.pts.length K2.c3)).setCell (p := ⟨kb, 3, none⟩) (.inr HB.out.hb) (.slice K2.A4 K2.crs.length K2.c4)).setCell (p := ⟨kb, 4, none⟩) (.inr HB.out.hb) (.slice K2.A5 K2.lns.length K2.c5)).setCell (p := ⟨kb, 5, none⟩) (.inr HB.out.hb) (.slice K2.A6 K2.rss.length K2.c6)).setCell (p := ⟨kb, 6, none⟩) (.inr HB.out.hb) (.bool K2.dirty)), HB.out.hb⟩
        try rw [← HA1.out]
        go_roundw
        case rel => exact ⟨q + 1, K2, by have := HLT.out; omega, by go_num, HBN.out, HFI2.out⟩
        case measure => have := HLT.out; simp [intOf]; omega
     subst he
     by_cases hk1 : x.kind = 1
     rotate_left
     ·have HQ : Hid (∀ (s : Nat) (h2 : s < K2.own.length) (h1 : s < K.own.length), K2.own[s] = K.own[s] ∨ x.kind = 1 ∧ ∃ j : Nat, x.n = j ∧ j < 12 ∧ K2.own[s] = (j : Int) + 1) := Lib.hid fun s h2 h1 => .inl (by
       have e : K2.own = K.own := (congrArg Kp.own HK2.out).trans (do_own HFI.out x hk1)
       simp [e])
      have d1 : (x.kind == 1) = false := by rw [beq_eq_false_iff_ne]; exact hk1
      have d2 : (x.kind != 1) = true := by rw [bne_iff_ne]; exact hk1
      obtain ⟨x0, -, -, -⟩ := four9 HX7.out
      clear hk1
      have HB8 := HB7
      have HN8 := HN7
      have HX8 := HX7
      clear HB7 HN7 HX7
      generalize hw8 : w7 = w8 at *
      clear hw8
      go_upto_region 25 with fail
      clear d1 d2 x0
      have hl2 : K2.own.length = K.own.length := by
       have a : K2.own.length = C.cf.secs.length := HFI2.out.l1
       have b : K.own.length = C.cf.secs.length := HFI.out.l1
       omega
      have HL2 := Lib.hid hl2
      have c2 := HN8.out.is.cell 0
      simp only [Km.arr, List.getElem?_toArray, List.getElem?_cons_zero] at c2
      have t9 : (K2.own.length : Int) ≤ 9223372036854775807 := by have := own_len8 HN8.out.own.own; omega
      clear hl2
      go_wp2_with fail
      clear c2
      go_loopw [117] (fun v wr => ∃ (s : Nat), s ≤ K2.own.length ∧ v = .int .i64 (s : Nat) ∧ Fr (fun _ => False) w8 wr) (fun v _ => K2.own.length - (intOf v).toNat)
      case atStart => exact ⟨0, Nat.zero_le _, rfl, Fr.refl _ _⟩
      case round =>
       obtain ⟨s, hs, rfl, f⟩ := hrel
       have HB := Lib.hid (HB8.out.fr f)
       have HN := Lib.hid (HN8.out.fr f)
       have HX := Lib.hid (HX8.out.fr f id)
       have HFW := Lib.hid f
       clear f
       by_cases hst : s < K2.own.length
       ·have hs1 : s < K.own.length := by have := HL2.out; omega
        obtain ⟨g1, o1, hA1, a0⟩ := rd_int (wide_rd HN.out.own.own) hst
        obtain ⟨g2, o2, hA2, b0⟩ := rd_int (wide_rd HB.out.own.own) hs1
        have c1 := HN.out.is.cell 0
        have c2 := HB.out.is.cell 0
        simp only [Km.arr, List.getElem?_toArray, List.getElem?_cons_zero] at c1 c2
        rw [hA1] at c1
        rw [hA2, ← HL2.out] at c2
        obtain ⟨x0, -, x2, -⟩ := four9 HX.out
        have u1 : (0 : Int) ≤ (s : Int) := by omega
        have u2 : (s : Int) < (K2.own.length : Int) := by omega
        have hq := HQ.out s hst hs1
        have HST := Lib.hid hst
        generalize K2.own[s]'hst = za at *
        generalize K.own[s]'hs1 = zb at *
        clear hA1 hA2 hs hst hs1
        by_cases hz : za = zb
        ·subst hz
         have d1 : (za != za) = false := by simp
         have d2 : (za == za) = true := by simp
         clear hq
         go_wp2_with fail
         go_quiet (fail)
         go_wp2_with fail
         go_roundw
         case rel => exact ⟨s + 1, by have := HST.out; omega, by go_num, HFW.out.drewN nq⟩
         case measure => have := HST.out; simp [intOf]; omega
        ·obtain ⟨hk1, j, hj, hj12, hza⟩ := hq.resolve_left hz
         rw [hk1] at x0
         rw [hj] at x2
         subst hza
         have d1 : ((j : Int) + 1 == zb) = false := by rw [beq_eq_false_iff_ne]; exact hz
         have d2 : ((j : Int) + 1 != zb) = true := by rw [bne_iff_ne]; exact hz
         have j1 : (0 : Int) ≤ (j : Int) := by omega
         have j2 : (j : Int) ≤ 12 := by omega
         clear hq hz hk1 hj hj12
         go_wp2_with fail
         go_quiet (fail)
         go_wp2_with fail
         go_roundw
         case rel => exact ⟨s + 1, by have := HST.out; omega, by go_num, HFW.out.drewN nq⟩
         case measure => have := HST.out; simp [intOf]; omega
       ·have hsn : s = K2.own.length := by omega
        subst hsn
        clear hst hs
        have isr := HB.out.is
        obtain ⟨k0, k1, k2, k3, k4, k5, k6⟩ := core_cells (K := K) HB.out.is
        obtain ⟨m0, m1, m2, m3, m4, m5, m6⟩ := core_cells (K := K2) HN.out.is
        have HO2 := Lib.hid (HN.out.own.base HSZ.out)
        have z0 := isr.frozen 0
        have z1 := isr.frozen 1
        have z2 := isr.frozen 2
        have z3 := isr.frozen 3
        have z4 := isr.frozen 4
        have z5 := isr.frozen 5
        have z6 := isr.frozen 6
        go_wp2_with fail
        clear k0 k1 k2 k3 k4 k5 k6 m0 m1 m2 m3 m4 m5 m6 z0 z1 z2 z3 z4 z5 z6
        have isR := (((((((isr.set 0 (.slice K2.A1 K2.own.length K2.c1)).set 1 (.slice K2.A2 K2.rts.length K2.c2)).set 2 (.slice K2.A3 K2.pts.length K2.c3)).set 3 (.slice K2.A4 K2.crs.length K2.c4)).set 4 (.slice K2.A5 K2.lns.length K2.c5)).set 5 (.slice K2.A6 K2.rss.length K2.c6)).set 6 (.bool K2.dirty))
        have fR := ((((((((Fr.refl (fun q => q = kb) wr).setCell (p := ⟨kb, 0, none⟩) (.inl rfl) (.slice K2.A1 K2.own.length K2.c1)).setCell (p := ⟨kb, 1, none⟩) (.inl rfl) (.slice K2.A2 K2.rts.length K2.c2)).setCell (p := ⟨kb, 2, none⟩) (.inl rfl) (.slice K2.A3 K2.pts.length K2.c3)).setCell (p := ⟨kb, 3, none⟩) (.inl rfl) (.slice K2.A4 K2.crs.length K2.c4)).setCell (p := ⟨kb, 4, none⟩) (.inl rfl) (.slice K2.A5 K2.lns.length K2.c5)).setCell (p := ⟨kb, 5, none⟩) (.inl rfl) (.slice K2.A6 K2.rss.length K2.c6)).setCell (p := ⟨kb, 6, none⟩) (.inl rfl) (.bool K2.dirty))
        try simp only [List.setIfInBounds_toArray, List.set_cons_zero, List.set_cons_succ] at isR
        have HBN : Hid (Bx w2 (((((((wr.setCell ⟨kb, 0, none⟩ (.slice K2.A1 K2.own.length K2.c1)).setCell ⟨kb, 1, none⟩ (.slice K2.A2 K2.rts.length K2.c2)).setCell ⟨kb, 2, none⟩ (.slice K2.A3 K2.pts.length K2.c3)).setCell ⟨kb, 3, none⟩ (.slice K2.A4 K2.crs.length K2.c4)).setCell ⟨kb, 4, none⟩ (.slice K2.A5 K2.lns.length K2.c5)).setCell ⟨kb, 5, none⟩ (.slice K2.A6 K2.rss.length K2.c6)).setCell ⟨kb, 6, none⟩ (.bool K2.dirty)) kb K2) := Lib.hid ⟨isR, HO2.out.fr fR fun k hk e => HO2.out.ne_is isr (by decide) (by decide) (by decide) (by decide) (e ▸ hk), (((((((HB.out.f.setCell (p := ⟨kb, 0, none⟩) (.inr HB.out.hb) (.slice K2.A1 K2.own.length K2.c1)).setCell (p := ⟨kb, 1, none⟩) (.inr HB.out.hb) (.slice K2.A2 K2.rts.length K2.c2)).setCell (p := ⟨kb, 2, none⟩) (.inr HB.out.hb) (.slice K2.A3 K2.pts.length K2.c3)).setCell (p := ⟨kb, 3, none⟩) (.inr HB.out.hb) (.slice K2.A4 K2.crs.length K2.c4)).setCell (p := ⟨kb, 4, none⟩) (.inr HB.out.hb) (.slice K2.A5 K2.lns.length K2.c5)).setCell (p := ⟨kb, 5, none⟩) (.inr HB.out.hb) (.slice K2.A6 K2.rss.length K2.c6)).setCell (p := ⟨kb, 6, none⟩) (.inr HB.out.hb) (.bool K2.dirty)), HB.out.hb⟩
        try rw [← HA1.out]
        go_roundw
        case rel => exact ⟨q + 1, K2, by have := HLT.out; omega, by go_num, HBN.out, HFI2.out⟩
        case measure => have := HLT.out; simp [intOf]; omega
     obtain ⟨j, hj, hjl, hre, hk3⟩ := do_req HFI.out x hk1 HEV.out
     have hjC : j < C.rs.length := by unfold Cm.cf at hjl; simpa using hjl
     have HK3 := Lib.hid (HK2.out.trans hk3)
     have HNN := Lib.hid hj
     have HK1 := Lib.hid hk1
     have HRE := Lib.hid hre
     have HJL := Lib.hid hjl
     have HJC := Lib.hid hjC
     have hln : K.own.length = C.cf.secs.length := HFI.out.l1
     have HQ : Hid (∀ (s : Nat) (h2 : s < K2.own.length) (h1 : s < K.own.length), K2.own[s] = K.own[s] ∨ x.kind = 1 ∧ ∃ j : Nat, x.n = j ∧ j < 12 ∧ K2.own[s] = (j : Int) + 1) := Lib.hid fun s h2 h1 => by
      have e : K2.own = (reqK C.cf K.kp x.now j).own := congrArg Kp.own HK3.out
      have q := do_own1 HFI.out x HJL.out s (show s < K.kp.own.length from h1)
      rw [← e, ownAt_lt h2] at q
      rw [show ownAt K.kp.own s = K.own[s] from ownAt_lt h1] at q
      rcases q with q | q
      ·exact .inl q
      ·exact .inr ⟨HK1.out, j, HNN.out, by have := HSM.out; have := HJC.out; omega, q⟩
     obtain ⟨p0, p1, p2, p3, p4, p5, p6, p7, p8⟩ := conf_cells0 HI7.out
     obtain ⟨x0, -, x2, -⟩ := four9 HX7.out
     rw [hk1] at x0
     rw [hj] at x2
     have KL := rlocks_any C (j : Int) w7 (HC.out.fr (fr_nil HF5.out HF7.out)) (locks_short HCK.out)
     unfold Cm.val Cm.arr at KL
     clear hj hjl hre hk3 hjC hk1 hln
     go_wp2_with fail
     refine KL.mono ?_
     rintro _ w0 ⟨AL, cL, rfl, ol, f0⟩
     have HOL := Lib.hid ol
     have HLL := Lib.hid (own_len9 ol)
     have HF0 := Lib.hid (fr_nil HF7.out f0)
     have HI0 := Lib.hid (HI7.out.fr f0 id)
     have HB0 := Lib.hid (HB7.out.fr f0)
     have HN0 := Lib.hid (HN7.out.fr f0)
     have HX0 := Lib.hid (HX7.out.fr f0 id)
     have HKO0 := Lib.hid (HKO7.out.fr f0)
     have HLK : Hid (∀ s ∈ locksR C (j : Int), s ∈ locksM (C.cf.rts[j]'HJL.out) ∧ 0 ≤ s ∧ s < K.own.length ∧ ownAt K2.own s = j + 1) := Lib.hid fun s hs => by
      rw [locksR_at HJC.out] at hs
      have hs : s ∈ locksM (rtAt C.cf j) := by rw [rt_ro HJC.out]; exact hs
      have q := locked_own HCK.out (k := K.kp) HFI.out.l1 (now := x.now) HJL.out s hs
      have e1 : K2.own = (reqK C.cf K.kp x.now j).own := congrArg Kp.own HK3.out
      have l1 : K.own.length = C.cf.secs.length := HFI.out.l1
      rw [← e1] at q
      exact ⟨by rw [← rt_mem HJL.out]; exact hs, q.1, by rw [l1]; exact q.2.1, q.2.2⟩
     clear KL ol f0 p0 p1 p2 p3 p4 p5 p6 p7 p8 x0 x2 HB7 HN7 HI7 HX7 HKO7 HKN7 HF7
     generalize hL : locksR C (j : Int) = L at *
     clear hL
     have j1 : (0 : Int) ≤ (j : Int) := by omega
     have j2 : (j : Int) ≤ 12 := by have := HSM.out; have := HJC.out; omega
     go_wp2_with fail
     go_loopw [83] (fun v wr => ∃ (k : Nat), k ≤ L.length ∧ v = .int .i64 (k : Nat) ∧ Fr (fun _ => False) w0 wr) (fun v _ => L.length - (intOf v).toNat)
     case atStart => exact ⟨0, Nat.zero_le _, rfl, Fr.refl _ _⟩
     case round =>
      obtain ⟨k, hk, rfl, f⟩ := hrel
      have HB := Lib.hid (HB0.out.fr f)
      have HN := Lib.hid (HN0.out.fr f)
      have HX := Lib.hid (HX0.out.fr f id)
      have HFW := Lib.hid f
      by_cases hlt : k < L.length
      ·obtain ⟨g, p, hL1, q0⟩ := rd_int ((wide_rd HOL.out).fr f fun _ _ => id) hlt
       obtain ⟨sm, s0, s1, s2⟩ := HLK.out _ (List.getElem_mem hlt)
       generalize L[k]'hlt = y at *
       obtain ⟨t, rfl⟩ := Int.eq_ofNat_of_zero_le s0
       have hl2 : K2.own.length = K.own.length := by
        have a : K2.own.length = C.cf.secs.length := HFI2.out.l1
        have b : K.own.length = C.cf.secs.length := HFI.out.l1
        omega
       have ht : t < K.own.length := by omega
       have ht2 : t < K2.own.length := by omega
       rw [ownAt_lt ht2] at s2
       obtain ⟨g1, o1, hA3, a0⟩ := rd_int (wide_rd HN.out.own.own) ht2
       obtain ⟨g2, o2, hA4, b0⟩ := rd_int (wide_rd HB.out.own.own) ht
       rw [s2] at a0
       have c1 := HN.out.is.cell 0
       simp only [Km.arr, List.getElem?_toArray, List.getElem?_cons_zero] at c1
       rw [hA3, hl2] at c1
       obtain ⟨-, -, x2, -⟩ := four9 HX.out
       rw [HNN.out] at x2
       have u1 : (0 : Int) ≤ (k : Int) := by omega
       have u2 : (k : Int) < (L.length : Int) := by omega
       have u3 : (L.length : Int) ≤ 9223372036854775807 := by have := HLL.out; omega
       have u4 : (t : Int) < (K.own.length : Int) := by omega
       have HLT2 := Lib.hid hlt
       have HT := Lib.hid ht
       have HSM2 := Lib.hid sm
       rw [hL1]
       have HL1 := Lib.hid hL1
       clear hL1 hA3 hlt hk f sm s0 s1 s2 hl2 ht2
       by_cases hz : K.own[t]'ht = 0
       ·rw [hz] at b0
        have c2 := HB.out.is.cell 0
        simp only [Km.arr, List.getElem?_toArray, List.getElem?_cons_zero] at c2
        rw [hA4] at c2
        clear hz ht hA4
        go_wp2_with fail
        go_quiet (fail)
        go_wp2_with fail
        try rw [← HL1.out]
        go_roundw
        case rel => exact ⟨k + 1, by have := HLT2.out; omega, by go_num, HFW.out.drewN nq⟩
        case measure => have := HLT2.out; simp [intOf]; omega
       ·obtain ⟨o, ho1, hoj, hol, hox, hov⟩ := do_inh HFI.out HJL.out HRE.out t HSM2.out (by rw [show ownAt K.kp.own t = K.own[t] from ownAt_lt ht]; exact hz)
        rw [show ownAt K.kp.own t = K.own[t] from ownAt_lt ht] at ho1
        have holC : o < C.rs.length := by unfold Cm.cf at hol; simpa using hol
        have KI : ∀ u : Fro wr, Calls Tryz.prog 27 #[C.val, K.val, .int .i64 (j : Int), .int .i64 (t : Int)] u.w fun e w' => e = .returned (.bool true) ∧ Fr (fun _ => False) u.w w' := fun u => by
         refine rinherits_true (HC.out.fr (fr_nil HF5.out (fr_nil (fr_nil HF0.out HFW.out) u.f))) ((HKO0.out.fr HFW.out).fr u.f) HT.out holC HJC.out ho1 hoj ?_ ?_
         ·simpa [Cm.cf, Ro.rt] using hox
         ·simpa [Cm.cf, Ro.rt] using hov
        unfold Cm.val Cm.arr Km.val Km.arr at KI
        replace b0 : wr.cell? ⟨g2, o2 + t, none⟩ = some (.int .i64 ((o : Int) + 1)) := by rw [b0, show K.own[t]'ht = (o : Int) + 1 from ho1]
        have d1 : ((o : Int) + 1 == 0) = false := by rw [beq_eq_false_iff_ne]; omega
        have d2 : ((o : Int) + 1 != 0) = true := by rw [bne_iff_ne]; omega
        obtain ⟨p0, p1, p2, p3, p4, p5, p6, p7, p8⟩ := conf_cells0 (HI0.out.fr HFW.out id)
        obtain ⟨k0, k1, k2, k3, k4, k5, k6⟩ := core_cells (K := K) HB.out.is
        rw [hA4] at k0 KI
        clear hz ht hA4 ho1 hoj hol hox hov holC
        go_upto_region 22 with fail
        have c1 := cell_fro c1
        have a0 := cell_fro a0
        have b0 := cell_fro b0
        have x2 := cell_fro x2
        have p0 := cell_fro p0
        have p1 := cell_fro p1
        have p2 := cell_fro p2
        have p3 := cell_fro p3
        have p4 := cell_fro p4
        have p5 := cell_fro p5
        have p6 := cell_fro p6
        have p7 := cell_fro p7
        have p8 := cell_fro p8
        have k0 := cell_fro k0
        have k1 := cell_fro k1
        have k2 := cell_fro k2
        have k3 := cell_fro k3
        have k4 := cell_fro k4
        have k5 := cell_fro k5
        have k6 := cell_fro k6
        refine region_fro (by kernel_rfl) (by kernel_rfl) ?_
        repeat (go_big_quiet_step (first | (go_at_call 27; with_reducible exact call_fro (KI _))))
        refine wpQuiet_nil ?_
        rintro w3 ⟨⟨w9, f3⟩, hww⟩
        replace hww : w3 = w9 := hww
        subst hww
        go_wp2_with fail
        try rw [← HL1.out]
        go_roundw
        case rel => exact ⟨k + 1, by have := HLT2.out; omega, by go_num, fr_nil HFW.out f3⟩
        case measure => have := HLT2.out; simp [intOf]; omega
      ·have hkn : k = L.length := by omega
       subst hkn
       have HB8 := HB
       have HN8 := HN
       have HX8 := HX
       clear HB HN HX hlt hk f HOL HLL HLK HB0 HN0 HX0 HI0 HKO0 HF0 HFW
       generalize hw8 : wr = w8 at *
       clear hw8
       go_upto_region 25 with fail
       have hl2 : K2.own.length = K.own.length := by
        have a : K2.own.length = C.cf.secs.length := HFI2.out.l1
        have b : K.own.length = C.cf.secs.length := HFI.out.l1
        omega
       have HL2 := Lib.hid hl2
       have c2 := HN8.out.is.cell 0
       simp only [Km.arr, List.getElem?_toArray, List.getElem?_cons_zero] at c2
       have t9 : (K2.own.length : Int) ≤ 9223372036854775807 := by have := own_len8 HN8.out.own.own; omega
       clear hl2
       go_wp2_with fail
       clear c2
       go_loopw [117] (fun v wr => ∃ (s : Nat), s ≤ K2.own.length ∧ v = .int .i64 (s : Nat) ∧ Fr (fun _ => False) w8 wr) (fun v _ => K2.own.length - (intOf v).toNat)
       case atStart => exact ⟨0, Nat.zero_le _, rfl, Fr.refl _ _⟩
       case round =>
        obtain ⟨s, hs, rfl, f⟩ := hrel
        have HB := Lib.hid (HB8.out.fr f)
        have HN := Lib.hid (HN8.out.fr f)
        have HX := Lib.hid (HX8.out.fr f id)
        have HFW := Lib.hid f
        clear f
        by_cases hst : s < K2.own.length
        ·have hs1 : s < K.own.length := by have := HL2.out; omega
         obtain ⟨g1, o1, hA1, a0⟩ := rd_int (wide_rd HN.out.own.own) hst
         obtain ⟨g2, o2, hA2, b0⟩ := rd_int (wide_rd HB.out.own.own) hs1
         have c1 := HN.out.is.cell 0
         have c2 := HB.out.is.cell 0
         simp only [Km.arr, List.getElem?_toArray, List.getElem?_cons_zero] at c1 c2
         rw [hA1] at c1
         rw [hA2, ← HL2.out] at c2
         obtain ⟨x0, -, x2, -⟩ := four9 HX.out
         have u1 : (0 : Int) ≤ (s : Int) := by omega
         have u2 : (s : Int) < (K2.own.length : Int) := by omega
         have hq := HQ.out s hst hs1
         have HST := Lib.hid hst
         generalize K2.own[s]'hst = za at *
         generalize K.own[s]'hs1 = zb at *
         clear hA1 hA2 hs hst hs1
         by_cases hz : za = zb
         ·subst hz
          have d1 : (za != za) = false := by simp
          have d2 : (za == za) = true := by simp
          clear hq
          go_wp2_with fail
          go_quiet (fail)
          go_wp2_with fail
          go_roundw
          case rel => exact ⟨s + 1, by have := HST.out; omega, by go_num, HFW.out.drewN nq⟩
          case measure => have := HST.out; simp [intOf]; omega
         ·obtain ⟨hk1, j, hj, hj12, hza⟩ := hq.resolve_left hz
          rw [hk1] at x0
          rw [hj] at x2
          subst hza
          have d1 : ((j : Int) + 1 == zb) = false := by rw [beq_eq_false_iff_ne]; exact hz
          have d2 : ((j : Int) + 1 != zb) = true := by rw [bne_iff_ne]; exact hz
          have j1 : (0 : Int) ≤ (j : Int) := by omega
          have j2 : (j : Int) ≤ 12 := by omega
          clear hq hz hk1 hj hj12
          go_wp2_with fail
          go_quiet (fail)
          go_wp2_with fail
          go_roundw
          case rel => exact ⟨s + 1, by have := HST.out; omega, by go_num, HFW.out.drewN nq⟩
          case measure => have := HST.out; simp [intOf]; omega
        ·have hsn : s = K2.own.length := by omega
         subst hsn
         clear hst hs
         have isr := HB.out.is
         obtain ⟨k0, k1, k2, k3, k4, k5, k6⟩ := core_cells (K := K) HB.out.is
         obtain ⟨m0, m1, m2, m3, m4, m5, m6⟩ := core_cells (K := K2) HN.out.is
         have HO2 := Lib.hid (HN.out.own.base HSZ.out)
         have z0 := isr.frozen 0
         have z1 := isr.frozen 1
         have z2 := isr.frozen 2
         have z3 := isr.frozen 3
         have z4 := isr.frozen 4
         have z5 := isr.frozen 5
         have z6 := isr.frozen 6
         go_wp2_with fail
         clear k0 k1 k2 k3 k4 k5 k6 m0 m1 m2 m3 m4 m5 m6 z0 z1 z2 z3 z4 z5 z6
         have isR := (((((((isr.set 0 (.slice K2.A1 K2.own.length K2.c1)).set 1 (.slice K2.A2 K2.rts.length K2.c2)).set 2 (.slice K2.A3 K2.pts.length K2.c3)).set 3 (.slice K2.A4 K2.crs.length K2.c4)).set 4 (.slice K2.A5 K2.lns.length K2.c5)).set 5 (.slice K2.A6 K2.rss.length K2.c6)).set 6 (.bool K2.dirty))
         have fR := ((((((((Fr.refl (fun q => q = kb) wr).setCell (p := ⟨kb, 0, none⟩) (.inl rfl) (.slice K2.A1 K2.own.length K2.c1)).setCell (p := ⟨kb, 1, none⟩) (.inl rfl) (.slice K2.A2 K2.rts.length K2.c2)).setCell (p := ⟨kb, 2, none⟩) (.inl rfl) (.slice K2.A3 K2.pts.length K2.c3)).setCell (p := ⟨kb, 3, none⟩) (.inl rfl) (.slice K2.A4 K2.crs.length K2.c4)).setCell (p := ⟨kb, 4, none⟩) (.inl rfl) (.slice K2.A5 K2.lns.length K2.c5)).setCell (p := ⟨kb, 5, none⟩) (.inl rfl) (.slice K2.A6 K2.rss.length K2.c6)).setCell (p := ⟨kb, 6, none⟩) (.inl rfl) (.bool K2.dirty))
         try simp only [List.setIfInBounds_toArray, List.set_cons_zero, List.set_cons_succ] at isR
         have HBN : Hid (Bx w2 (((((((wr.setCell ⟨kb, 0, none⟩ (.slice K2.A1 K2.own.length K2.c1)).setCell ⟨kb, 1, none⟩ (.slice K2.A2 K2.rts.length K2.c2)).setCell ⟨kb, 2, none⟩ (.slice K2.A3 K2.pts.length K2.c3)).setCell ⟨kb, 3, none⟩ (.slice K2.A4 K2.crs.length K2.c4)).setCell ⟨kb, 4, none⟩ (.slice K2.A5 K2.lns.length K2.c5)).setCell ⟨kb, 5, none⟩ (.slice K2.A6 K2.rss.length K2.c6)).setCell ⟨kb, 6, none⟩ (.bool K2.dirty)) kb K2) := Lib.hid ⟨isR, HO2.out.fr fR fun k hk e => HO2.out.ne_is isr (by decide) (by decide) (by decide) (by decide) (e ▸ hk), (((((((HB.out.f.setCell (p := ⟨kb, 0, none⟩) (.inr HB.out.hb) (.slice K2.A1 K2.own.length K2.c1)).setCell (p := ⟨kb, 1, none⟩) (.inr HB.out.hb) (.slice K2.A2 K2.rts.length K2.c2)).setCell (p := ⟨kb, 2, none⟩) (.inr HB.out.hb) (.slice K2.A3 K2.pts.length K2.c3)).setCell (p := ⟨kb, 3, none⟩) (.inr HB.out.hb) (.slice K2.A4 K2.crs.length K2.c4)).setCell (p := ⟨kb, 4, none⟩) (.inr HB.out.hb) (.slice K2.A5 K2.lns.length K2.c5)).setCell (p := ⟨kb, 5, none⟩) (.inr HB.out.hb) (.slice K2.A6 K2.rss.length K2.c6)).setCell (p := ⟨kb, 6, none⟩) (.inr HB.out.hb) (.bool K2.dirty)), HB.out.hb⟩
         try rw [← HA1.out]
         go_roundw
         case rel => exact ⟨q + 1, K2, by have := HLT.out; omega, by go_num, HBN.out, HFI2.out⟩
         case measure => have := HLT.out; simp [intOf]; omega
    ·have hqn : q = ls.length := by omega
     subst hqn
     clear hlt hq
     go_wp2_with fail
     go_ret
     exact ⟨rfl, fr_nil HF.out HB.out.f⟩
end Go.Proofs.YtginfnbdnkgjbaaGreat.Lk
namespace Go.Proofs.YtginfnbdnkgjbaaGreat.locksRows
open Go.ChangeShapes Go.WideShapes Go.ChangeAt Go.RowKit
open Go.ChangeMaps (open_string shut_string)
theorem q1 : (Rows.locksRowsRow.inPlace == Tryz.checked.prog.inPlace 5) = true := by kernel_rfl
theorem q2 : (Rows.locksRowsRow.unfollowed == Tryz.checked.prog.unfollowed 5) = true := by kernel_rfl
theorem q3 : (Rows.locksRowsRow.recurses == Tryz.checked.prog.recurses 5) = true := by kernel_rfl
theorem q4 : (Rows.locksRowsRow.named == Tryz.checked.prog.varsNamed 5) = true := by kernel_rfl
theorem closed : joinedFacts Tryz.checked.prog 5 Tryz.f5 Rows.locksRowsSpec Rows.locksRowsRow = true := by
 unfold joinedFacts
 simp only [Bool.and_eq_true]
 and_intros
 ·kernel_rfl
 ·exact Lk.pf1
 ·exact Lk.pf2
 ·kernel_rfl
 ·kernel_rfl
 ·kernel_rfl
 ·kernel_rfl
 ·kernel_rfl
 ·kernel_rfl
 ·exact q1
 ·exact q2
 ·exact q3
 ·exact q4
 ·kernel_rfl
 ·kernel_rfl
 ·kernel_rfl
 ·kernel_rfl
 ·kernel_rfl
 ·kernel_rfl
 ·kernel_rfl
 ·kernel_rfl
 ·kernel_rfl
 ·kernel_rfl
 ·kernel_rfl
 ·exact Lk.pf3
 ·exact Lk.pf4
 ·exact Lk.pf5
 ·kernel_rfl
 ·kernel_rfl
 ·kernel_rfl
 ·kernel_rfl
 ·kernel_rfl
set_option maxRecDepth 100000 in
theorem lifted (os : Os) (started : os.Started) (H : Type) (enc : TypeId × Value → H) :
  ReturnsInHanded {} Tryz.checked os 5 .any (Rows.locksRowsSpec.pre6 enc Tryz.prog Tryz.f5 Rows.locksRowsRow.domain false) (Rows.locksRowsSpec.post enc Tryz.prog Tryz.f5 false true false false) := by
 refine returnsInHanded_of_change_sized (C := Tryz.checked) Tryz.own started (by kernel_rfl) Tryz.func5
  (ChangeSpec.witness6 (enc := enc) (C := Tryz.checked) false ⟨#[], #[.agg #[.slice none 0 0, .slice none 0 0, .slice none 0 0, .slice none 0 0, .slice none 0 0, .int .i64 0, .int .i64 0, .int .i64 0, .int .i64 0], .slice none 0 0, .slice none 0 0], []⟩ 8 (by kernel_rfl) (by kernel_rfl) (by kernel_rfl) (by kernel_rfl)) ?_
 intro W base args ds gs before hval0 hW hcnd0 hsz0 _
 have hval : ∀ (j : Nat) t v, Tryz.f5.params[j]? = some t → args[j]? = some v → Value.okWide Tryz.prog W .any base t v := hval0
 have hW' := hW
 obtain ⟨p, q, hA0, hV, rfl, hfz, hnd⟩ := hW
 have hA : DataW.TrodAll enc Tryz.prog W 0 (fun _ => true) true Tryz.f5.params.toList args.toList ds p := hA0
 have hsz : (DataW.weightsEach Tryz.prog (Tryz.f5.params.toList ++ Rows.locksRowsSpec.plain.varTypes Tryz.prog) (ds ++ gs)).all (· ≤ reachBytes) = true := hsz0
 rw [Tryz.params5] at hA hval hsz
 obtain ⟨v0, v1, v2, d0, d1, d2, p0, p1, p2, rfl, rfl, rfl, h0, h1, h2⟩ := trodAll_three hA
 obtain ⟨rfl, rfl⟩ := trodVars_none hV
 obtain ⟨x0, rfl, i0⟩ := open_conf (hval 0 30 v0 rfl rfl) h0
 obtain ⟨A1, c1, l1, rfl, hl1, hd1⟩ := open_list (hval 1 25 v1 rfl rfl) h1
 obtain ⟨A2, c2, l2, rfl, hl2, sl2, iq2⟩ := Lk.open_calls (hval 2 56 v2 rfl rfl) h2
 have z0 := conf_ok i0 hsz (j := 0) rfl rfl
 have n1 : l1.length * 8 ≤ 140737488351232 := by
  rcases hd1 with ⟨_, rfl⟩ | ⟨rest, rfl⟩
  ·simp
  ·have := sized_slice hsz (j := 1) (t := 25) (e := 3) rfl rfl Tryz.underlying25
   rw [bytes_int, lits_len] at this
   unfold reachBytes at this
   omega
 have n2 := Lk.calls_size hsz (j := 2) rfl rfl sl2
 refine (Lk.toB (Lk.rows_walk z0 l1 l2 hl1 hl2 n1 n2 iq2)).mono fun e W' ⟨he, hb⟩ => ?_
 subst he
 exact law_post hW' rfl (by kernel_rfl) (by rw [Tryz.params5]; exact of_decide_eq_true (by kernel_rfl)) rfl rfl rfl hb
theorem proved : Rows.LocksRowsSaid :=
 OpenClaim.holds_of_wide 5 Tryz.f5 rfl rfl rfl rfl rfl rfl rfl ⟨rfl, rfl, rfl, rfl, rfl⟩ rfl rfl rfl rfl rfl (by kernel_rfl) Tryz.func5 closed
  (of_decide_eq_true (by kernel_rfl)) (by unfold Func.isWrapper; first | (rw [if_pos (by decide +kernel)]; kernel_rfl) | (rw [if_neg (by decide +kernel)]; exact ⟨rfl, rfl⟩))
  (fun os started H enc _ => lifted os started H enc)
end Go.Proofs.YtginfnbdnkgjbaaGreat.locksRows

/- The contracts of the small tests: is this a section, an end; in which position a section stands; does an end stand in a joint. -/
import Derived.Test.YtkkohdmneognlaaGreatDoorMaa
import Derived.BigQuiet
import Derived.Deep.RegionHeld3
import Derived.Laws.MakeOwn
import Derived.StillTailTactics
namespace Go.Proofs.YtkkohdmneognlaaGreatDoor
open Go.RowKit

def isSecB (n : Nat) (s : Int) : Bool := decide (0 ≤ s) && decide (s < n)
def kindOf (l : List Sec) (s : Nat) : Int := (l.getD s default).kind
def isEndB (l : List Sec) (s e : Int) : Bool := isSecB l.length s && (decide (0 ≤ e) && decide (e < endsM (kindOf l s.toNat)))
def posAt (p : List Int) (s : Nat) : Int := p.getD s 0

theorem kindOf_at {l : List Sec} {s : Nat} (h : s < l.length) : kindOf l s = l[s].kind := by
  unfold kindOf
  rw [List.getD_eq_getElem?_getD, List.getElem?_eq_getElem h]
  rfl
theorem isSecB_true {n : Nat} {s : Int} (h : isSecB n s = true) : ∃ k : Nat, s = k ∧ k < n := by
  unfold isSecB at h
  simp at h
  exact ⟨s.toNat, by omega, by omega⟩
theorem isSecB_nat {n k : Nat} (h : k < n) : isSecB n k = true := by
  unfold isSecB
  simp [h]
theorem isSecB_false {n : Nat} {s : Int} (h : isSecB n s = false) : s < 0 ∨ (n : Int) ≤ s := by
  unfold isSecB at h
  simp at h
  omega

theorem issec_any {A : Option Addr} {c n : Nat} (s : Int) (w : World) : Calls Tryz.prog 79 #[.slice A n c, .int .i64 s] w fun e w' => e = .returned (.bool (isSecB n s)) ∧ w = w' := by
  unfold isSecB
  by_cases h1 : 0 ≤ s
  · rw [show decide (0 ≤ s) = true by simp [h1], Bool.true_and]
    by_cases h2 : s < n
    · rw [show decide (s < n) = true by simp [h2]]
      go_enter Tryz.func79, Tryz.ntmps79
      go_wp2
      go_ret
      exact ⟨rfl, rfl⟩
    · rw [show decide (s < n) = false by simp [h2]]
      have h3 : decide (s < n) = false := by simp [h2]
      clear h2
      go_enter Tryz.func79, Tryz.ntmps79
      go_wp2
      go_ret
      exact ⟨rfl, rfl⟩
  · rw [show decide (0 ≤ s) = false by simp [h1], Bool.false_and]
    have h3 : s < 0 := by omega
    clear h1
    go_enter Tryz.func79, Tryz.ntmps79
    go_wp2
    go_ret
    exact ⟨rfl, rfl⟩

set_option maxHeartbeats 1000000 in
theorem isend_any {A : Option Addr} {c : Nat} {l : List Sec} (s e : Int) (w : World) (hr : Rd w A (cellsS l)) :
    Calls Tryz.prog 78 #[.slice A l.length c, .int .i64 s, .int .i64 e] w fun x w' => x = .returned (.bool (isEndB l s e)) ∧ w = w' := by
  unfold isEndB
  have KS := fun w => issec_any (A := A) (c := c) (n := l.length) s w
  cases hs : isSecB l.length s
  · rw [Bool.false_and]
    rw [hs] at KS
    clear hs
    go_enter Tryz.func78, Tryz.ntmps78
    go_wp2_with fail
    refine (KS _).mono ?_
    rintro x w1 ⟨rfl, rfl⟩
    go_wp2
    go_ret
    exact ⟨rfl, rfl⟩
  · rw [Bool.true_and]
    rw [hs] at KS
    obtain ⟨k, rfl, hk⟩ := isSecB_true hs
    obtain ⟨g, o, rfl, c0, _, _⟩ := rd_sec hr hk
    rw [Int.toNat_natCast, kindOf_at hk]
    generalize l[k].kind = kd at *
    clear hs hr
    by_cases h1 : 0 ≤ e
    · rw [show decide (0 ≤ e) = true by simp [h1], Bool.true_and]
      have KE := fun w => ends_any kd w
      by_cases h2 : e < endsM kd
      · rw [show decide (e < endsM kd) = true by simp [h2]]
        generalize endsM kd = n at *
        go_enter Tryz.func78, Tryz.ntmps78
        go_wp2_with fail
        refine (KS _).mono ?_
        rintro x w1 ⟨rfl, rfl⟩
        go_wp2_with fail
        refine (KE _).mono ?_
        rintro x w1 ⟨rfl, rfl⟩
        go_wp2
        go_ret
        exact ⟨rfl, rfl⟩
      · rw [show decide (e < endsM kd) = false by simp [h2]]
        have h3 : decide (e < endsM kd) = false := by simp [h2]
        clear h2
        generalize endsM kd = n at *
        go_enter Tryz.func78, Tryz.ntmps78
        go_wp2_with fail
        refine (KS _).mono ?_
        rintro x w1 ⟨rfl, rfl⟩
        go_wp2_with fail
        refine (KE _).mono ?_
        rintro x w1 ⟨rfl, rfl⟩
        go_wp2
        go_ret
        exact ⟨rfl, rfl⟩
    · rw [show decide (0 ≤ e) = false by simp [h1], Bool.false_and]
      have h3 : e < 0 := by omega
      clear h1
      go_enter Tryz.func78, Tryz.ntmps78
      go_wp2_with fail
      refine (KS _).mono ?_
      rintro x w1 ⟨rfl, rfl⟩
      go_wp2
      go_ret
      exact ⟨rfl, rfl⟩

theorem position_any {A : Option Addr} {c : Nat} {p : List Int} (s : Nat) (w : World) (hr : Rd w A (p.map (Value.int .i64))) (hl : p.length ≤ 9223372036854775807) (hs : s ≤ 9223372036854775807) :
    Calls Tryz.prog 81 #[.slice A p.length c, .int .i64 (s : Nat)] w fun x w' => x = .returned (.int .i64 (posAt p s)) ∧ w = w' := by
  by_cases h : s < p.length
  · have e1 : posAt p s = p[s] := by unfold posAt; rw [List.getD_eq_getElem?_getD, List.getElem?_eq_getElem h]; rfl
    obtain ⟨g, o, rfl, _, hc⟩ := hr (by rw [List.length_map]; omega)
    have c0 := hc s (.int .i64 p[s]) (by rw [List.getElem?_map, List.getElem?_eq_getElem h]; rfl)
    rw [e1]
    generalize p[s] = v at *
    clear hc e1 hr
    go_enter Tryz.func81, Tryz.ntmps81
    go_wp2
    go_ret
    exact ⟨rfl, rfl⟩
  · have e1 : posAt p s = 0 := by unfold posAt; rw [List.getD_eq_getElem?_getD, List.getElem?_eq_none (by omega)]; rfl
    rw [e1]
    clear hr e1
    go_enter Tryz.func81, Tryz.ntmps81
    go_wp2
    go_ret
    exact ⟨rfl, rfl⟩

theorem stands_any {A : Option Addr} {c : Nat} {l : List Jo} (s e : Int) (w : World) (hr : Rd w A (cellsJ l)) (hl : l.length ≤ 9223372036854775807) :
    Calls Tryz.prog 120 #[.slice A l.length c, .int .i64 s, .int .i64 e] w fun x w' => x = .returned (.bool (nextOk l s e)) ∧ Fr (fun _ => False) w w' := by
  have K := next_any (c := c) s e w hr hl
  generalize nextS l s e = S at *
  generalize nextE l s e = E at *
  generalize nextOk l s e = O at *
  clear hr
  go_enter Tryz.func120, Tryz.ntmps120
  go_wp2_with fail
  refine K.mono ?_
  rintro x w1 ⟨rfl, f1⟩
  go_wp2
  go_ret
  exact ⟨rfl, f1⟩
end Go.Proofs.YtkkohdmneognlaaGreatDoor
/- Plain mathematics of a train's way: section by section, no section twice. -/
namespace Go.Proofs.YtkkohdmneognlaaGreatDoor

def seenAt (seen : List Bool) (s : Nat) : Bool := seen.getD s false
def unseen (seen : List Bool) : Nat := (seen.filter fun b => !b).length
def followF : Nat → List Sec → List Jo → List Int → List Bool → Int → Int → List St
  | 0, _, _, _, _, _, _ => []
  | f + 1, l, js, p, seen, s, i =>
    if (isSecB l.length s && !seenAt seen s.toNat) = true then
      if wayOk (kindOf l s.toNat) i (posAt p s.toNat) = true then
        ⟨s, i, wayOut (kindOf l s.toNat) i (posAt p s.toNat)⟩ ::
          (if nextOk js s (wayOut (kindOf l s.toNat) i (posAt p s.toNat)) = true then
            followF f l js p (seen.set s.toNat true) (nextS js s (wayOut (kindOf l s.toNat) i (posAt p s.toNat))) (nextE js s (wayOut (kindOf l s.toNat) i (posAt p s.toNat)))
          else [])
      else [⟨s, i, -1⟩]
    else []
def followM (l : List Sec) (js : List Jo) (s i : Int) (p : List Int) : List St :=
  if isEndB l s i = true then followF (l.length + 1) l js p (List.replicate l.length false) s i else []

theorem unseen_new (n : Nat) : unseen (List.replicate n false) = n := by
  unfold unseen
  induction n with
  | zero => rfl
  | succ n ih => rw [List.replicate_succ, List.filter_cons]; simp
theorem unseen_le (seen : List Bool) : unseen seen ≤ seen.length := List.length_filter_le _ _
theorem unseen_set : ∀ (seen : List Bool) (k : Nat), k < seen.length → seenAt seen k = false → unseen (seen.set k true) + 1 = unseen seen
  | [], _, h, _ => by simp at h
  | b :: r, 0, _, hs => by
    have hb : b = false := hs
    subst hb
    simp [unseen]
  | b :: r, k + 1, h, hs => by
    have ih := unseen_set r k (by simpa using h) hs
    unfold unseen at ih ⊢
    rw [List.set_cons_succ, List.filter_cons, List.filter_cons]
    cases b <;> simp <;> omega
theorem seenAt_set (seen : List Bool) (k j : Nat) (h : k < seen.length) : seenAt (seen.set k true) j = (decide (k = j) || seenAt seen j) := by
  unfold seenAt
  rw [List.getD_eq_getElem?_getD, List.getD_eq_getElem?_getD, List.getElem?_set]
  by_cases e : k = j
  · subst e; simp [h]
  · simp [e]
theorem seenAt_get {seen : List Bool} {k : Nat} (h : k < seen.length) : seen[k]? = some (seenAt seen k) := by
  unfold seenAt
  rw [List.getD_eq_getElem?_getD, List.getElem?_eq_getElem h]
  rfl

section
variable {l : List Sec} {js : List Jo} {p : List Int} {seen : List Bool} {f : Nat} {s i : Int}
theorem follow_stop (h : (isSecB l.length s && !seenAt seen s.toNat) = false) : followF f l js p seen s i = [] := by
  cases f with
  | zero => rfl
  | succ f => rw [followF, if_neg (by rw [h]; decide)]
theorem follow_nat {k : Nat} (hk : k < l.length) (hs : seenAt seen k = false) :
    followF (f + 1) l js p seen k i =
      if wayOk (kindOf l k) i (posAt p k) = true then
        ⟨k, i, wayOut (kindOf l k) i (posAt p k)⟩ ::
          (if nextOk js k (wayOut (kindOf l k) i (posAt p k)) = true then
            followF f l js p (seen.set k true) (nextS js k (wayOut (kindOf l k) i (posAt p k))) (nextE js k (wayOut (kindOf l k) i (posAt p k)))
          else [])
      else [⟨k, i, -1⟩] := by
  rw [followF, if_pos (by rw [isSecB_nat hk, Int.toNat_natCast, hs]; rfl), Int.toNat_natCast]
end
end Go.Proofs.YtkkohdmneognlaaGreatDoor
/- The contracts of what Check asks: the sizes, the sections, the joints, the lines. -/
namespace Go.Proofs.YtkkohdmneognlaaGreatDoor
open Go.RowKit

def sizesB (l : List Sec) (js : List Jo) : Bool := decide (1 ≤ l.length) && decide (l.length ≤ 16) && decide (js.length ≤ 24)
def secOkB (s : Sec) : Bool := !(endsM s.kind == 0) && decide (0 ≤ s.oc) && decide (s.oc < 4) && decide (0 ≤ s.line) && decide (s.line ≤ 3)
def sectionsB : List Sec → Bool
  | [] => true
  | s :: r => secOkB s && sectionsB r
def joOkB (l : List Sec) (j : Jo) : Bool := !(j.a == j.b) && isEndB l j.a j.ae && isEndB l j.b j.be
def jointsB (l : List Sec) : List Jo → Bool
  | [] => true
  | j :: r => joOkB l j && (!nextOk r j.a j.ae && !nextOk r j.b j.be) && jointsB l r

theorem sizes_any {A1 A2 : Option Addr} {c1 c2 : Nat} (l : List Sec) (js : List Jo) (w : World) :
    Calls Tryz.prog 83 #[.slice A1 l.length c1, .slice A2 js.length c2] w fun e w' => e = .returned (.bool (sizesB l js)) ∧ w = w' := by
  unfold sizesB
  generalize l.length = n
  generalize js.length = m
  by_cases h1 : 1 ≤ n
  · rw [show decide (1 ≤ n) = true by simp [h1], Bool.true_and]
    by_cases h2 : n ≤ 16
    · rw [show decide (n ≤ 16) = true by simp [h2], Bool.true_and]
      by_cases h3 : m ≤ 24
      · rw [show decide (m ≤ 24) = true by simp [h3]]
        have e3 : decide ((m : Int) ≤ 24) = true := by simp; omega
        go_enter Tryz.func83, Tryz.ntmps83
        go_wp2
        go_ret
        exact ⟨rfl, rfl⟩
      · rw [show decide (m ≤ 24) = false by simp [h3]]
        have e3 : decide ((m : Int) ≤ 24) = false := by simp; omega
        clear h3
        go_enter Tryz.func83, Tryz.ntmps83
        go_wp2
        go_ret
        exact ⟨rfl, rfl⟩
    · rw [show decide (n ≤ 16) = false by simp [h2], Bool.false_and]
      have h4 : 16 < n := by omega
      clear h2
      go_enter Tryz.func83, Tryz.ntmps83
      go_wp2
      go_ret
      exact ⟨rfl, rfl⟩
  · rw [show decide (1 ≤ n) = false by simp; omega, Bool.false_and, Bool.false_and]
    have h4 : n < 1 := by omega
    clear h1
    go_enter Tryz.func83, Tryz.ntmps83
    go_wp2
    go_ret
    exact ⟨rfl, rfl⟩

theorem sec_tests (s : Sec) : (secOkB s = true ∧ (endsM s.kind == 0) = false ∧ 0 ≤ s.oc ∧ s.oc < 4 ∧ 0 ≤ s.line ∧ s.line ≤ 3) ∨
    (secOkB s = false ∧ (endsM s.kind == 0) = true) ∨ (secOkB s = false ∧ (endsM s.kind == 0) = false ∧ s.oc < 0) ∨ (secOkB s = false ∧ (endsM s.kind == 0) = false ∧ 0 ≤ s.oc ∧ 4 ≤ s.oc) ∨
    (secOkB s = false ∧ (endsM s.kind == 0) = false ∧ 0 ≤ s.oc ∧ s.oc < 4 ∧ s.line < 0) ∨ (secOkB s = false ∧ (endsM s.kind == 0) = false ∧ 0 ≤ s.oc ∧ s.oc < 4 ∧ 0 ≤ s.line ∧ 3 < s.line) := by
  unfold secOkB
  generalize (endsM s.kind == 0) = e
  cases e <;> simp <;> omega

set_option maxHeartbeats 2000000 in
theorem sections_any {A : Option Addr} {c : Nat} {l : List Sec} (w : World) (hr : Rd w A (cellsS l)) (hl : l.length ≤ 9223372036854775807) :
    Calls Tryz.prog 84 #[.slice A l.length c] w fun x w' => x = .returned (.bool (sectionsB l)) ∧ Fr (fun _ => False) w w' := by
  generalize hO : sectionsB l = O
  have HO := Lib.hid hO
  clear hO
  go_enter Tryz.func84, Tryz.ntmps84
  go_wp2_with fail
  go_loopw [7] (fun t wr => ∃ j : Nat, j ≤ l.length ∧ t = .int .i64 (j : Nat) ∧ sectionsB (l.drop j) = O ∧ Fr (fun _ => False) w wr) (fun t _ => l.length - (intOf t).toNat)
  case atStart => exact ⟨0, Nat.zero_le _, rfl, HO.out, Fr.refl _ _⟩
  case round =>
    clear HO
    obtain ⟨j, hj, rfl, hO, fr⟩ := hrel
    by_cases hlt : j < l.length
    · obtain ⟨g, o, rfl, c0, c1, c2⟩ := rd_sec (hr.fr fr fun _ _ => id) hlt
      rw [List.drop_eq_getElem_cons hlt, sectionsB] at hO
      generalize l[j] = v at *
      have ht := sec_tests v
      have KE := fun w => ends_any v.kind w
      generalize secOkB v = x at *
      obtain ⟨k, oc, ln⟩ := v
      simp only at *
      generalize endsM k = n at *
      clear hr
      rcases ht with ⟨rfl, h1, h2, h3, h4, h5⟩ | ⟨rfl, h1⟩ | ⟨rfl, h1, h2⟩ | ⟨rfl, h1, h2, h3⟩ | ⟨rfl, h1, h2, h3, h4⟩ | ⟨rfl, h1, h2, h3, h4, h5⟩
      · rw [Bool.true_and] at hO
        have HO := Lib.hid hO
        clear hO
        go_wp2_with fail
        refine (KE _).mono ?_
        clear KE
        rintro x w3 ⟨rfl, rfl⟩
        go_wp2_with fail
        go_roundw
        case rel => exact ⟨j + 1, by omega, by go_num, HO.out, fr.alloc _⟩
        case measure => simp [intOf]; omega
      all_goals
        rw [Bool.false_and] at hO
        subst hO
        go_wp2_with fail
        refine (KE _).mono ?_
        clear KE
        rintro x w3 ⟨rfl, rfl⟩
        go_wp2_with fail
        go_ret
        exact ⟨rfl, fr.alloc _⟩
    · have hjl : j = l.length := by omega
      subst hjl
      rw [List.drop_length] at hO
      have hO' : true = O := hO
      subst hO'
      clear hO
      go_wp2_with fail
      go_ret
      exact ⟨rfl, fr⟩

/-- the slice behind a place -/
theorem behind_slice {w : World} {A : Option Addr} {c : Nat} {js : List Jo} (h : Rd w A (cellsJ js)) (hc : js.length ≤ c) (i : Nat) (hi : i < js.length) (h63 : c ≤ 9223372036854775807) :
    ∃ A2 c2, (∀ W, (Instr.slice 23 (.slice A js.length c) (some (.int .i64 ((i : Int) + 1))) none none).run Tryz.prog W = .ok (.slice A2 (js.drop (i + 1)).length c2) W) ∧ Rd w A2 (cellsJ (js.drop (i + 1))) ∧ (js.drop (i + 1)).length ≤ c2 ∧ c2 ≤ 9223372036854775807 := by
  obtain ⟨g, o, rfl, hg, hcell⟩ := h (by rw [cellsJ_length]; omega)
  have hcut : cellsJ (js.drop (i + 1)) = (cellsJ js).drop ((i + 1) * 4) := by
    have e : cellsJ js = cellsJ (js.take (i + 1)) ++ cellsJ (js.drop (i + 1)) := by
      unfold cellsJ
      rw [← List.flatMap_append, List.take_append_drop]
    rw [e, List.drop_append_of_le_length (by rw [cellsJ_length, List.length_take]; omega), List.drop_of_length_le (l := cellsJ (js.take (i + 1))) (by rw [cellsJ_length, List.length_take]; omega), List.nil_append]
  rw [List.length_drop]
  by_cases hc1 : c = i + 1
  · subst hc1
    have hl : js.length = i + 1 := by omega
    refine ⟨some ⟨g, o, none⟩, 0, fun W => ?_, fun h0 => by rw [cellsJ_length, List.length_drop] at h0; omega, by omega, by omega⟩
    rw [hl, Nat.sub_self]
    have h0 : ¬ ((i : Int) + 1 < 0) := by omega
    have h2 : (((i : Int) + 1)).toNat = i + 1 := by omega
    go_simp
  · refine ⟨some ⟨g, o + (i + 1) * 4, none⟩, c - (i + 1), fun W => ?_, fun h0 => ⟨g, o + (i + 1) * 4, rfl, hg, fun j u hu => ?_⟩, by omega, by omega⟩
    · have h1 : ((i : Int) + 1) ≤ (js.length : Int) := by omega
      have h2 : ((js.length : Nat) : Int) ≤ (c : Int) := by omega
      have h0 : ¬ ((i : Int) + 1 < 0) := by omega
      have h4 : (((i : Int) + 1)).toNat = i + 1 := by omega
      go_simp
    · rw [hcut, List.getElem?_drop] at hu
      have := hcell _ u hu
      rw [Nat.add_assoc]
      exact this
end Go.Proofs.YtkkohdmneognlaaGreatDoor
/- The contract of jointsRight: each joint joins two ends of two sections, and no end stands in two joints. -/
namespace Go.Proofs.YtkkohdmneognlaaGreatDoor
open Go.RowKit

theorem sym_false (a b : Int) (h : ((a == b) = false)) : (b == a) = false := by
  simp at h ⊢
  exact fun e => h e.symm

set_option maxHeartbeats 4000000 in
theorem joints_any {A1 A2 : Option Addr} {c1 c2 : Nat} {l : List Sec} {js : List Jo} (w : World) (h1 : Rd w A1 (cellsS l)) (h2 : Rd w A2 (cellsJ js)) (hj : js.length ≤ c2) (hc2 : c2 ≤ 9223372036854775807) :
    Calls Tryz.prog 85 #[.slice A1 l.length c1, .slice A2 js.length c2] w fun x w' => x = .returned (.bool (jointsB l js)) ∧ Fr (fun _ => False) w w' := by
  generalize hO : jointsB l js = O
  have HO := Lib.hid hO
  clear hO
  go_enter Tryz.func85, Tryz.ntmps85
  go_wp2_with fail
  go_loopw [10] (fun t wr => ∃ j : Nat, j ≤ js.length ∧ t = .int .i64 (j : Nat) ∧ jointsB l (js.drop j) = O ∧ Fr (fun _ => False) w wr) (fun t _ => js.length - (intOf t).toNat)
  case atStart => exact ⟨0, Nat.zero_le _, rfl, HO.out, Fr.refl _ _⟩
  case round =>
    clear HO
    obtain ⟨j, hjl, rfl, hO, fr⟩ := hrel
    by_cases hlt : j < js.length
    · obtain ⟨A3, c3, hsl, hr3, hl3, hc3⟩ := behind_slice (h2.fr fr fun _ _ => id) hj j hlt hc2
      obtain ⟨g, o, rfl, d0, d1, d2, d3⟩ := rd_jo (h2.fr fr fun _ _ => id) hlt
      rw [List.drop_eq_getElem_cons hlt, jointsB, joOkB] at hO
      generalize js[j] = v at *
      obtain ⟨a, ae, b, be⟩ := v
      simp only at *
      have HD := Lib.hid h2
      have h1r := h1.fr fr fun _ _ => id
      have KE1 := fun w h => isend_any (c := c1) a ae w (l := l) (A := A1) h
      have KE2 := fun w h => isend_any (c := c1) b be w (l := l) (A := A1) h
      have KS1 := fun w h => stands_any (c := c3) a ae w (l := js.drop (j + 1)) (A := A3) h (by omega)
      have KS2 := fun w h => stands_any (c := c3) b be w (l := js.drop (j + 1)) (A := A3) h (by omega)
      generalize hd : js.drop (j + 1) = js' at *
      have HJ := Lib.hid hd
      clear hd h2
      have f0 := fr.alloc (.cells #[.int .i64 a, .int .i64 ae, .int .i64 b, .int .i64 be] 69)
      have h1a := h1r.fr ((Fr.refl (fun _ => False) wr).alloc (.cells #[.int .i64 a, .int .i64 ae, .int .i64 b, .int .i64 be] 69)) fun _ _ => id
      have hr3a := hr3.fr ((Fr.refl (fun _ => False) wr).alloc (.cells #[.int .i64 a, .int .i64 ae, .int .i64 b, .int .i64 be] 69)) fun _ _ => id
      have HA := Lib.hid h1r
      have HB := Lib.hid hr3
      have HW := Lib.hid h1
      clear h1 h1r hr3
      cases x1 : (a == b)
      · rw [x1] at hO
        rw [Bool.not_false, Bool.true_and] at hO
        cases x2 : isEndB l a ae
        · rw [x2] at hO KE1
          rw [Bool.false_and, Bool.false_and, Bool.false_and] at hO
          subst hO
          clear x2
          go_wp2_with fail
          refine (KE1 _ h1a).mono ?_
          clear KE1
          rintro x w3 ⟨rfl, rfl⟩
          go_wp2_with fail
          go_ret
          exact ⟨rfl, f0⟩
        · rw [x2] at hO KE1
          rw [Bool.true_and] at hO
          clear x2
          cases x3 : isEndB l b be
          · rw [x3] at hO KE2
            rw [Bool.false_and, Bool.false_and] at hO
            subst hO
            clear x3
            go_wp2_with fail
            refine (KE1 _ h1a).mono ?_
            clear KE1
            rintro x w3 ⟨rfl, rfl⟩
            go_wp2_with fail
            refine (KE2 _ h1a).mono ?_
            clear KE2
            rintro x w3 ⟨rfl, rfl⟩
            go_wp2_with fail
            go_ret
            exact ⟨rfl, f0⟩
          · rw [x3] at hO KE2
            rw [Bool.true_and] at hO
            clear x3
            cases x4 : nextOk js' a ae
            · rw [x4] at hO KS1
              rw [Bool.not_false, Bool.true_and] at hO
              cases x5 : nextOk js' b be
              · rw [x5] at hO KS2
                rw [Bool.not_false, Bool.true_and] at hO
                have HO := Lib.hid hO
                clear hO x4 x5
                go_wp2_with fail
                refine (KE1 _ h1a).mono ?_
                clear KE1
                rintro x w3 ⟨rfl, rfl⟩
                go_wp2_with fail
                refine (KE2 _ h1a).mono ?_
                clear KE2
                rintro x w3 ⟨rfl, rfl⟩
                go_wp2_with fail
                refine (KS1 _ hr3a).mono ?_
                clear KS1
                rintro x w3 ⟨rfl, f3⟩
                have k2 := f3.cell (p := ⟨wr.heap.size, 2, none⟩) (by simp) id
                have k3 := f3.cell (p := ⟨wr.heap.size, 3, none⟩) (by simp) id
                simp [World.cell?_alloc_at] at k2 k3
                have hr3b := hr3a.fr f3 fun _ _ => id
                go_wp2_with fail
                refine (KS2 _ hr3b).mono ?_
                clear KS2
                rintro x w4 ⟨rfl, f4⟩
                go_wp2_with fail
                go_roundw
                case rel => exact ⟨j + 1, by omega, by go_num, by rw [HJ.out]; exact HO.out, fr_nil (fr_nil f0 f3) f4⟩
                case measure => simp [intOf]; omega
              · rw [x5] at hO KS2
                rw [Bool.not_true, Bool.false_and] at hO
                subst hO
                clear x4 x5
                go_wp2_with fail
                refine (KE1 _ h1a).mono ?_
                clear KE1
                rintro x w3 ⟨rfl, rfl⟩
                go_wp2_with fail
                refine (KE2 _ h1a).mono ?_
                clear KE2
                rintro x w3 ⟨rfl, rfl⟩
                go_wp2_with fail
                refine (KS1 _ hr3a).mono ?_
                clear KS1
                rintro x w3 ⟨rfl, f3⟩
                have k2 := f3.cell (p := ⟨wr.heap.size, 2, none⟩) (by simp) id
                have k3 := f3.cell (p := ⟨wr.heap.size, 3, none⟩) (by simp) id
                simp [World.cell?_alloc_at] at k2 k3
                have hr3b := hr3a.fr f3 fun _ _ => id
                go_wp2_with fail
                refine (KS2 _ hr3b).mono ?_
                clear KS2
                rintro x w4 ⟨rfl, f4⟩
                go_wp2_with fail
                go_ret
                exact ⟨rfl, fr_nil (fr_nil f0 f3) f4⟩
            · rw [x4] at hO KS1
              rw [Bool.not_true, Bool.false_and, Bool.false_and] at hO
              subst hO
              clear x4
              go_wp2_with fail
              refine (KE1 _ h1a).mono ?_
              clear KE1
              rintro x w3 ⟨rfl, rfl⟩
              go_wp2_with fail
              refine (KE2 _ h1a).mono ?_
              clear KE2
              rintro x w3 ⟨rfl, rfl⟩
              go_wp2_with fail
              refine (KS1 _ hr3a).mono ?_
              clear KS1
              rintro x w3 ⟨rfl, f3⟩
              go_wp2_with fail
              go_ret
              exact ⟨rfl, fr_nil f0 f3⟩
      · rw [x1] at hO
        rw [Bool.not_true, Bool.false_and, Bool.false_and, Bool.false_and, Bool.false_and] at hO
        subst hO
        go_wp2_with fail
        go_ret
        exact ⟨rfl, f0⟩
    · have hjl : j = js.length := by omega
      subst hjl
      rw [List.drop_length] at hO
      have hO' : true = O := hO
      subst hO'
      clear hO
      go_wp2_with fail
      go_ret
      exact ⟨rfl, fr⟩
end Go.Proofs.YtkkohdmneognlaaGreatDoor
/- The contract of Follow: the steps of a train's way, in memory of the call's own. -/
namespace Go.Proofs.YtkkohdmneognlaaGreatDoor
open Go.RowKit

def cellsT (l : List St) : List Value := l.flatMap fun s => [.int .i64 s.sec, .int .i64 s.inn, .int .i64 s.out]
def cellsB (l : List Bool) : Array Value := (l.map Value.bool).toArray
theorem cellsT_length (l : List St) : (cellsT l).length = l.length * 3 := by
  induction l with
  | nil => rfl
  | cons v r ih =>
    have e : cellsT (v :: r) = [.int .i64 v.sec, .int .i64 v.inn, .int .i64 v.out] ++ cellsT r := rfl
    rw [e, List.length_append, ih, List.length_cons]
    simp
    omega
theorem cellsT_snoc (l : List St) (v : St) : cellsT (l ++ [v]) = cellsT l ++ [.int .i64 v.sec, .int .i64 v.inn, .int .i64 v.out] := by
  unfold cellsT
  rw [List.flatMap_append]
  rfl
theorem Tryz.infoT : (Tryz.prog.info? 45).map (fun i => (i.zero, i.size, i.bytes)) = some (some (.agg #[.int .i64 0, .int .i64 0, .int .i64 0]), 3, 24) := by kernel_rfl
theorem Tryz.infoBool : (Tryz.prog.info? 4).map (fun i => (i.zero, i.size, i.bytes)) = some (some (.bool false), 1, 1) := by kernel_rfl

theorem make_bools (n : Nat) (hn : n ≤ 140737488355328) (W : World) : (Instr.makeSlice 89 (.int .i64 (n : Int)) (.int .i64 (n : Int))).run Tryz.prog W = .ok (.slice (some ⟨W.heap.size, 0, none⟩) n n) (W.alloc (.cells (cellsB (List.replicate n false)) 4)) := by
  obtain ⟨i0, hi0, hz0, hz1, hz2⟩ := info_parts Tryz.infoBool
  have h := run_make (P := Tryz.prog) W 89 4 i0 _ Tryz.underlying89 hi0 hz0 .i64 .i64 (n : Int) (n : Int) (by omega) (by omega) (by rw [hz2]; omega) (by omega)
  rw [h, hz1, Int.toNat_natCast]
  have e : madeCells (Value.bool false).cells (n * 1) = cellsB (List.replicate n false) := by
    apply Array.ext_getElem?
    intro i
    unfold madeCells cellsB
    by_cases hi : i < n
    · have e2 : i % 1 = 0 := Nat.mod_one i
      simp [Value.cells, hi, e2]
    · simp [hi]
  rw [e]
theorem cellsB_at {l : List Bool} {k : Nat} (h : k < l.length) : (cellsB l)[k]? = some (.bool (seenAt l k)) := by
  unfold cellsB
  rw [List.getElem?_toArray, List.getElem?_map, seenAt_get h]
  rfl
theorem cellsB_set (l : List Bool) (k : Nat) (b : Bool) : (cellsB l).setIfInBounds k (.bool b) = cellsB (l.set k b) := by
  unfold cellsB
  rw [List.setIfInBounds_toArray, List.map_set]

theorem Rd.drew1 {w : World} {A : Option Addr} {xs : List Value} (h : Rd w A xs) : Rd w.drew A xs := h

/-- Steps that lie in memory of the call's own. -/
def Steps (w : World) (L : List St) (e : Ending) (w' : World) : Prop := ∃ A c, e = .returned (.slice A L.length c) ∧ w'.ownsRow w.heap.size 45 3 (.slice A L.length c) L.length (cellsT L) ∧ Fr (fun _ => False) w w'

set_option maxHeartbeats 4000000 in
theorem follow_any {A1 A2 A3 : Option Addr} {c1 c2 c3 : Nat} {l : List Sec} {js : List Jo} {p : List Int} (s i : Int) (w : World) (h1 : Rd w A1 (cellsS l)) (h2 : Rd w A2 (cellsJ js)) (h3 : Rd w A3 (p.map (Value.int .i64)))
    (hl : l.length * 24 ≤ 140737488351232) (hj : js.length ≤ 9223372036854775807) (hp : p.length ≤ 9223372036854775807) :
    Calls Tryz.prog 33 #[.slice A1 l.length c1, .slice A2 js.length c2, .int .i64 s, .int .i64 i, .slice A3 p.length c3] w (Steps w (followM l js s i p)) := by
  have KE := fun w h => isend_any (c := c1) s i w (l := l) (A := A1) h
  unfold followM
  cases he : isEndB l s i
  · rw [he] at KE
    rw [if_neg (by decide)]
    clear he
    go_enter Tryz.func33, Tryz.ntmps33
    go_wp2_with fail
    refine (KE _ h1).mono ?_
    rintro x w1 ⟨rfl, rfl⟩
    go_wp2
    go_ret
    exact ⟨none, 0, rfl, World.ownsRow_nil _ _ _ _, Fr.refl _ _⟩
  · rw [he] at KE
    rw [if_pos rfl]
    clear he
    generalize hT : followF (l.length + 1) l js p (List.replicate l.length false) s i = T
    have HT := Lib.hid hT
    clear hT
    have hmk := make_bools l.length (by omega)
    generalize hcs : cellsB (List.replicate l.length false) = cs at hmk
    have HC := Lib.hid hcs
    clear hcs
    obtain ⟨i0, hi0, hz0, hz1, hz2⟩ := info_parts Tryz.infoT
    go_enter Tryz.func33, Tryz.ntmps33
    go_wp2_with fail
    refine (KE _ h1).mono ?_
    clear KE
    rintro x w1 ⟨rfl, rfl⟩
    go_wp2_with fail
    clear hmk
    go_loopw [2, 3, 11] (fun v2 v3 v11 wr => ∃ (s i : Int) (ts : List St) (A : Option Addr) (c : Nat) (seen : List Bool), v2 = .int .i64 s ∧ v3 = .int .i64 i ∧ v11 = .slice A ts.length c ∧ seen.length = l.length ∧ unseen seen + ts.length = l.length ∧
        Is wr w.heap.size 4 (cellsB seen) ∧ wr.ownsRow w.heap.size 45 3 (.slice A ts.length c) ts.length (cellsT ts) ∧ Fr (fun _ => False) w wr ∧ ts ++ followF (unseen seen + 1) l js p seen s i = T)
      (fun _ _ v _ => l.length + 1 - (match v with | .slice _ n _ => n | _ => 0))
    case atStart => exact ⟨s, i, [], none, 0, _, rfl, rfl, rfl, List.length_replicate, by rw [unseen_new]; rfl, by rw [HC.out]; exact Is.new _ _ _, World.ownsRow_nil _ _ _ _, (Fr.refl _ _).alloc _, by rw [unseen_new]; exact HT.out⟩
    case round =>
      clear HC HT
      obtain ⟨s, i, ts, A, c, seen, rfl, rfl, rfl, hsl, hun, his, hown, fr, hT⟩ := hrel
      have KS := fun w => issec_any (A := A1) (c := c1) (n := l.length) s w
      cases hs : isSecB l.length s
      · rw [hs] at KS
        rw [follow_stop (by rw [hs]; rfl), List.append_nil] at hT
        subst hT
        clear hs h1 h2 h3
        go_wp2_with fail
        refine (KS _).mono ?_
        rintro x w3 ⟨rfl, rfl⟩
        go_wp2
        go_ret
        exact ⟨A, c, rfl, hown, fr⟩
      · rw [hs] at KS
        obtain ⟨k, rfl, hk⟩ := isSecB_true hs
        clear hs
        have hb := his.lt
        have k0 := (his.cell k).trans (cellsB_at (by omega))
        have kf := his.frozen k
        cases hse : seenAt seen k
        · rw [hse] at k0
          have hun2 := unseen_set seen k (by omega) hse
          rw [follow_nat hk hse] at hT
          have his1 := his.set k (.bool true)
          rw [cellsB_set] at his1
          have f1 := (Fr.refl (fun j => j = w.heap.size) wr).setCell (p := ⟨w.heap.size, k, none⟩) (.inl rfl) (.bool true)
          have hown1 := wide_fr hown f1 (fun j hj e => wide_is_ne hown his (by decide) (e ▸ hj))
          have fr1 := fr.setCell (p := ⟨w.heap.size, k, none⟩) (.inr (Nat.le_refl _)) (.bool true)
          obtain ⟨g, o, rfl, q0, _, _⟩ := rd_sec (h1.fr fr1 fun _ _ => id) hk
          have KP := fun w' h => position_any (c := c3) k w' (p := p) (A := A3) h hp (by omega)
          have KW := fun w' => way_any (kindOf l k) i (posAt p k) w'
          rw [← kindOf_at hk] at q0
          generalize kindOf l k = kd at *
          generalize posAt p k = pp at *
          have HP3 := h3.fr fr1 fun _ _ => id
          have hgl := World.block_lt_of_cell? _ ⟨g, o + k * 3, none⟩ q0
          clear fr his f1 hown h1 h3
          have hts : ts.length < l.length := by omega
          have HSE := Lib.hid hse
          clear hse
          generalize hO : wayOut kd i pp = O at *
          have HO := Lib.hid hO
          clear hO
          cases hok : wayOk kd i pp
          · rw [hok] at KW hT
            rw [if_neg (by decide)] at hT
            subst hT
            clear hok hun hun2 hsl
            go_wp2_with fail
            refine (KS _).mono ?_
            clear KS
            rintro x w3 ⟨rfl, rfl⟩
            go_wp2_with fail
            go_region_held3 (fun Wx => Wx.cell? ⟨g, o + k * 3, none⟩ = some (.int .i64 kd) ∧ Rd Wx A3 (p.map (Value.int .i64))) (first | exact ⟨q0, HP3⟩ | exact ⟨q4, HP4⟩) (first | (go_at_call 81; refine (KP _ (by assumption)).mono ?_; rintro e w4 ⟨rfl, rfl⟩) | (go_at_call 80; refine (KW _).mono ?_; rintro e w4 ⟨rfl, f4⟩; have q4 := (f4.cell (p := ⟨g, o + k * 3, none⟩) (by simpa using hgl) id).trans q0; have HP4 := (Rd.drew1 HP3).fr f4 fun _ _ => id))
            have fr4 := fr_nil fr1.drew f4
            have hown4 := wide_fr hown1.drew f4 fun _ _ => id
            have hlo := World.ownsRow.lt hown4
            go_wp2_with (at_builtin; refine wpList_append_wide _ rfl (.tmp 51) (.tmp 55) 40 rfl w.heap.size 45 i0 _ 3 24 Tryz.underlying40 hi0 hz0 hz1 hz2 rfl (by decide) (.slice A ts.length c) ts.length (cellsT ts) rfl (hown4.alloc _) (some ⟨w4.heap.size, 0, none⟩) 1 1 [.int .i64 (k : Nat), .int .i64 i, .int .i64 (-1)] rfl rfl (lit_rd w4 _ _) (by simp [Value.oneCell']) (by unfold maxLen; omega) (by omega) (Nat.le_trans fr4.size (by simp)) ?_; intro v5 w5 hown5 hg5 hat5; obtain ⟨A5, c5, rfl, _, _, _, _⟩ := wide_form hown5)
            go_wp2
            go_ret
            refine ⟨A5, c5, by rw [List.length_append]; rfl, ?_, (fr4.alloc _).grown hg5 fun j hj => .inr (hlo j hj).1⟩
            rw [List.length_append, cellsT_snoc]
            exact hown5
          · rw [hok] at KW hT
            rw [if_pos rfl] at hT
            have KN := fun w h => next_any (c := c2) (k : Nat) O w (l := js) (A := A2) h hj
            clear hok
            generalize hS : nextS js (k : Nat) O = S' at *
            generalize hE : nextE js (k : Nat) O = E' at *
            cases hno : nextOk js (k : Nat) O
            · rw [hno] at KN hT
              rw [if_neg (by decide)] at hT
              subst hT
              clear hno hun hun2 hsl hS hE
              go_wp2_with fail
              refine (KS _).mono ?_
              clear KS
              rintro x w3 ⟨rfl, rfl⟩
              go_wp2_with fail
              go_region_held3 (fun Wx => Wx.cell? ⟨g, o + k * 3, none⟩ = some (.int .i64 kd) ∧ Rd Wx A3 (p.map (Value.int .i64))) (first | exact ⟨q0, HP3⟩ | exact ⟨q4, HP4⟩) (first | (go_at_call 81; refine (KP _ (by assumption)).mono ?_; rintro e w4 ⟨rfl, rfl⟩) | (go_at_call 80; refine (KW _).mono ?_; rintro e w4 ⟨rfl, f4⟩; have q4 := (f4.cell (p := ⟨g, o + k * 3, none⟩) (by simpa using hgl) id).trans q0; have HP4 := (Rd.drew1 HP3).fr f4 fun _ _ => id))
              have fr4 := fr_nil fr1.drew f4
              have hown4 := wide_fr hown1.drew f4 fun _ _ => id
              have hlo := World.ownsRow.lt hown4
              go_wp2_with (at_builtin; refine wpList_append_wide _ rfl (.tmp 57) (.tmp 62) 40 rfl w.heap.size 45 i0 _ 3 24 Tryz.underlying40 hi0 hz0 hz1 hz2 rfl (by decide) (.slice A ts.length c) ts.length (cellsT ts) rfl (hown4.alloc _) (some ⟨w4.heap.size, 0, none⟩) 1 1 [.int .i64 (k : Nat), .int .i64 i, .int .i64 O] rfl rfl (lit_rd w4 _ _) (by simp [Value.oneCell']) (by unfold maxLen; omega) (by omega) (Nat.le_trans fr4.size (by simp)) ?_; intro v5 w5 hown5 hg5 hat5; obtain ⟨A5, c5, rfl, _, _, _, _⟩ := wide_form hown5)
              have fr5 := (fr4.alloc (.cells #[.int .i64 (k : Nat), .int .i64 i, .int .i64 O] 45)).grown hg5 fun j hj => .inr (hlo j hj).1
              go_wp2_with fail
              refine (KN _ (h2.fr fr5 fun _ _ => id)).mono ?_
              clear KN
              rintro x w6 ⟨rfl, f6⟩
              go_wp2_with fail
              go_ret
              refine ⟨A5, c5, by rw [List.length_append]; rfl, ?_, fr_nil fr5 f6⟩
              rw [List.length_append, cellsT_snoc]
              exact wide_fr hown5 f6 fun _ _ => id
            · rw [hno] at KN hT
              rw [if_pos rfl] at hT
              have HS := Lib.hid hS
              have HE := Lib.hid hE
              have HT := Lib.hid hT
              have HUN := Lib.hid hun
              have HUN2 := Lib.hid hun2
              have HSL := Lib.hid hsl
              clear hno hun hun2 hsl hS hE hT
              go_wp2_with fail
              refine (KS _).mono ?_
              clear KS
              rintro x w3 ⟨rfl, rfl⟩
              go_wp2_with fail
              go_region_held3 (fun Wx => Wx.cell? ⟨g, o + k * 3, none⟩ = some (.int .i64 kd) ∧ Rd Wx A3 (p.map (Value.int .i64))) (first | exact ⟨q0, HP3⟩ | exact ⟨q4, HP4⟩) (first | (go_at_call 81; refine (KP _ (by assumption)).mono ?_; rintro e w4 ⟨rfl, rfl⟩) | (go_at_call 80; refine (KW _).mono ?_; rintro e w4 ⟨rfl, f4⟩; have q4 := (f4.cell (p := ⟨g, o + k * 3, none⟩) (by simpa using hgl) id).trans q0; have HP4 := (Rd.drew1 HP3).fr f4 fun _ _ => id))
              have fr4 := fr_nil fr1.drew f4
              have hown4 := wide_fr hown1.drew f4 fun _ _ => id
              have his4 := his1.drew.fr f4 id
              have hlo := World.ownsRow.lt hown4
              have hne := wide_is_ne hown4 his4 (by decide)
              go_wp2_with (at_builtin; refine wpList_append_wide _ rfl (.tmp 57) (.tmp 62) 40 rfl w.heap.size 45 i0 _ 3 24 Tryz.underlying40 hi0 hz0 hz1 hz2 rfl (by decide) (.slice A ts.length c) ts.length (cellsT ts) rfl (hown4.alloc _) (some ⟨w4.heap.size, 0, none⟩) 1 1 [.int .i64 (k : Nat), .int .i64 i, .int .i64 O] rfl rfl (lit_rd w4 _ _) (by simp [Value.oneCell']) (by unfold maxLen; omega) (by omega) (Nat.le_trans fr4.size (by simp)) ?_; intro v5 w5 hown5 hg5 hat5; obtain ⟨A5, c5, rfl, _, _, _, _⟩ := wide_form hown5)
              have fr5 := (fr4.alloc (.cells #[.int .i64 (k : Nat), .int .i64 i, .int .i64 O] 45)).grown hg5 fun j hj => .inr (hlo j hj).1
              have his5 := (his4.alloc (.cells #[.int .i64 (k : Nat), .int .i64 i, .int .i64 O] 45)).fr ((Fr.refl (fun j => (Value.slice A ts.length c).ownBlock = some j) _).grown hg5 fun j hj => .inl hj) hne
              clear hne
              go_wp2_with fail
              refine (KN _ (h2.fr fr5 fun _ _ => id)).mono ?_
              clear KN
              rintro x w6 ⟨rfl, f6⟩
              go_wp2_with fail
              go_roundw
              case rel =>
                refine ⟨S', E', ts ++ [⟨k, i, O⟩], A5, c5, seen.set k true, rfl, rfl, by rw [List.length_append]; rfl, by rw [List.length_set]; exact HSL.out, ?_, his5.fr f6 id, ?_, fr_nil fr5 f6, ?_⟩
                · have := HUN.out
                  have := HUN2.out
                  rw [List.length_append]
                  show _ + (ts.length + 1) = _
                  omega
                · rw [List.length_append, cellsT_snoc]
                  exact wide_fr hown5 f6 fun _ _ => id
                · rw [HUN2.out, List.append_assoc]
                  exact HT.out
              case measure => simp; omega
        · rw [hse] at k0
          rw [follow_stop (by rw [Int.toNat_natCast, hse]; simp), List.append_nil] at hT
          subst hT
          clear hse h1 h2 h3
          go_wp2_with fail
          refine (KS _).mono ?_
          rintro x w3 ⟨rfl, rfl⟩
          go_wp2
          go_ret
          exact ⟨A, c, rfl, hown, fr⟩
end Go.Proofs.YtkkohdmneognlaaGreatDoor
/- The contract of linesRight: no two sections have one line, and a line's section is plain, with its end 1 in no joint. -/
namespace Go.Proofs.YtkkohdmneognlaaGreatDoor
open Go.RowKit

def linesB (js : List Jo) : Nat → List Bool → List Sec → Bool
  | _, _, [] => true
  | i, t, s :: r => if s.line = 0 then linesB js (i + 1) t r else (!seenAt t s.line.toNat && ((s.kind == 0) && !nextOk js i 1)) && linesB js (i + 1) (t.set s.line.toNat true) r

theorem sections_at : ∀ {l : List Sec} (_ : sectionsB l = true) (j : Nat) (hj : j < l.length), secOkB l[j] = true
  | [], _, _, hj => by simp at hj
  | s :: r, h, 0, _ => by
    rw [sectionsB, Bool.and_eq_true] at h
    exact h.1
  | s :: r, h, j + 1, hj => by
    rw [sectionsB, Bool.and_eq_true] at h
    exact sections_at h.2 j (by simpa using hj)
theorem sec_line {s : Sec} (h : secOkB s = true) : ∃ m : Nat, s.line = m ∧ m < 4 := by
  unfold secOkB at h
  simp at h
  exact ⟨s.line.toNat, by omega, by omega⟩

set_option maxHeartbeats 4000000 in
theorem lines_any {A1 A2 : Option Addr} {c1 c2 : Nat} {l : List Sec} {js : List Jo} (w : World) (h1 : Rd w A1 (cellsS l)) (h2 : Rd w A2 (cellsJ js)) (hl : l.length ≤ 9223372036854775807) (hj : js.length ≤ 9223372036854775807) (hs : sectionsB l = true) :
    Calls Tryz.prog 86 #[.slice A1 l.length c1, .slice A2 js.length c2] w fun x w' => x = .returned (.bool (linesB js 0 [false, false, false, false] l)) ∧ Fr (fun _ => False) w w' := by
  generalize hO : linesB js 0 [false, false, false, false] l = O
  have HO := Lib.hid hO
  clear hO
  have HS := Lib.hid hs
  clear hs
  go_enter Tryz.func86, Tryz.ntmps86
  go_wp2_with fail
  go_loopw [10] (fun t wr => ∃ (j : Nat) (tk : List Bool), j ≤ l.length ∧ t = .int .i64 (j : Nat) ∧ tk.length = 4 ∧ Is wr w.heap.size 158 (cellsB tk) ∧ linesB js j tk (l.drop j) = O ∧ Fr (fun _ => False) w wr) (fun t _ => l.length - (intOf t).toNat)
  case atStart => exact ⟨0, [false, false, false, false], Nat.zero_le _, rfl, rfl, Is.new _ _ _, HO.out, (Fr.refl _ _).alloc _⟩
  case round =>
    clear HO
    obtain ⟨j, tk, hjl, rfl, htk, his, hO, fr⟩ := hrel
    by_cases hlt : j < l.length
    · obtain ⟨g, o, rfl, d0, d1, d2⟩ := rd_sec (h1.fr fr fun _ _ => id) hlt
      obtain ⟨m, hm, hm4⟩ := sec_line (sections_at HS.out j hlt)
      rw [List.drop_eq_getElem_cons hlt, linesB] at hO
      generalize l[j] = v at *
      obtain ⟨k, oc, ln⟩ := v
      simp only at *
      subst hm
      rw [Int.toNat_natCast] at hO
      have his1 := his.alloc (.cells #[.int .i64 k, .int .i64 oc, .int .i64 (m : Nat)] 62)
      have f1 := fr.alloc (.cells #[.int .i64 k, .int .i64 oc, .int .i64 (m : Nat)] 62)
      have hr2 := h2.fr f1 fun _ _ => id
      have KS := fun w h => stands_any (c := c2) (j : Nat) 1 w (l := js) (A := A2) h hj
      have hb := his.lt
      have H1 := Lib.hid h1
      have H2 := Lib.hid h2
      clear h1 h2
      by_cases hm0 : m = 0
      · subst hm0
        have z : ((0 : Nat) : Int) = 0 := rfl
        rw [if_pos z] at hO
        rw [z] at d2 his1 f1
        clear z
        have HO := Lib.hid hO
        have HTK := Lib.hid htk
        clear hO htk hr2 KS
        go_wp2_with fail
        go_roundw
        case rel => exact ⟨j + 1, tk, by omega, by go_num, HTK.out, his1, HO.out, f1⟩
        case measure => simp [intOf]; omega
      · rw [if_neg (by omega)] at hO
        have k0 := (his1.cell m).trans (cellsB_at (by omega))
        have kf := his1.frozen m
        have e0 : ((m : Int) == 0) = false := by simp; omega
        have b0 : (0 : Int) ≤ (m : Int) := by omega
        have b1 : (m : Int) < 4 := by omega
        have HTK := Lib.hid htk
        clear htk hm0
        cases x1 : seenAt tk m
        · rw [x1] at hO k0
          rw [Bool.not_false, Bool.true_and] at hO
          clear x1
          cases x2 : (k == 0)
          · rw [x2] at hO
            rw [Bool.false_and, Bool.false_and] at hO
            subst hO
            have x3 : (k != 0) = true := by simp at x2 ⊢; exact x2
            go_wp2_with fail
            go_ret
            exact ⟨rfl, f1⟩
          · rw [x2] at hO
            rw [Bool.true_and] at hO
            have x3 : (k != 0) = false := by simp at x2 ⊢; exact x2
            cases x4 : nextOk js (j : Nat) 1
            · rw [x4] at hO KS
              rw [Bool.not_false, Bool.true_and] at hO
              have HO := Lib.hid hO
              clear hO x4
              have hne : wr.heap.size ≠ w.heap.size := by omega
              go_wp2_with fail
              refine (KS _ hr2).mono ?_
              clear KS
              rintro x w3 ⟨rfl, f3⟩
              have k2 := f3.cell (p := ⟨wr.heap.size, 2, none⟩) (by simp) id
              simp [World.cell?_alloc_at] at k2
              have his3 := his1.fr f3 id
              have g0 := (his3.cell m).trans (cellsB_at (by rw [HTK.out]; exact hm4))
              have gf := his3.frozen m
              clear his1 k0 kf
              go_wp2_with fail
              go_roundw
              case rel =>
                refine ⟨j + 1, tk.set m true, by omega, by go_num, by rw [List.length_set]; exact HTK.out, ?_, HO.out, (fr_nil f1 f3).setCell (p := ⟨w.heap.size, m, none⟩) (.inr (Nat.le_refl _)) _⟩
                have := his3.set m (.bool true)
                rw [cellsB_set] at this
                exact this
              case measure => simp [intOf]; omega
            · rw [x4] at hO KS
              rw [Bool.not_true, Bool.false_and] at hO
              subst hO
              clear x4
              go_wp2_with fail
              refine (KS _ hr2).mono ?_
              clear KS
              rintro x w3 ⟨rfl, f3⟩
              go_wp2_with fail
              go_ret
              exact ⟨rfl, fr_nil f1 f3⟩
        · rw [x1] at hO k0
          rw [Bool.not_true, Bool.false_and, Bool.false_and] at hO
          subst hO
          clear x1
          go_wp2_with fail
          go_ret
          exact ⟨rfl, f1⟩
    · have hjl : j = l.length := by omega
      subst hjl
      rw [List.drop_length] at hO
      have hO' : true = O := hO
      subst hO'
      clear hO
      go_wp2_with fail
      go_ret
      exact ⟨rfl, fr⟩
end Go.Proofs.YtkkohdmneognlaaGreatDoor
/- The contract of Check: is a plan right. -/
namespace Go.Proofs.YtkkohdmneognlaaGreatDoor
open Go.RowKit

def tk0 : List Bool := [false, false, false, false]
def checkB (l : List Sec) (js : List Jo) : Bool := sizesB l js && (sectionsB l && (jointsB l js && linesB js 0 tk0 l))
def errOf (b : Bool) : Int := if b = true then 0 else 6

theorem sizes_short {l : List Sec} {js : List Jo} (h : sizesB l js = true) : 1 ≤ l.length ∧ l.length ≤ 16 ∧ js.length ≤ 24 := by
  unfold sizesB at h
  simp at h
  omega

set_option maxHeartbeats 2000000 in
theorem check_any {A1 A2 : Option Addr} {c1 c2 : Nat} {l : List Sec} {js : List Jo} (w : World) (h1 : Rd w A1 (cellsS l)) (h2 : Rd w A2 (cellsJ js)) (hl : l.length ≤ 9223372036854775807) (hj : js.length ≤ c2) (hc2 : c2 ≤ 9223372036854775807) :
    Calls Tryz.prog 37 #[.slice A1 l.length c1, .slice A2 js.length c2] w fun x w' => x = .returned (.int .i64 (errOf (checkB l js))) ∧ Fr (fun _ => False) w w' := by
  unfold checkB
  have K1 := fun w => sizes_any (A1 := A1) (A2 := A2) (c1 := c1) (c2 := c2) l js w
  have K2 := fun w h => sections_any (c := c1) w (A := A1) (l := l) h hl
  have K3 := fun w h h' => joints_any (c1 := c1) (c2 := c2) w (A1 := A1) (A2 := A2) (l := l) (js := js) h h' hj hc2
  have K4 := fun w h h' hs => lines_any (c1 := c1) (c2 := c2) w (A1 := A1) (A2 := A2) (l := l) (js := js) h h' hl (by omega) hs
  have e6 : errOf false = 6 := rfl
  have e0 : errOf true = 0 := rfl
  cases x1 : sizesB l js
  · rw [x1] at K1
    rw [Bool.false_and, e6]
    clear x1 e6 e0
    go_enter Tryz.func37, Tryz.ntmps37
    go_wp2_with fail
    refine (K1 _).mono ?_
    clear K1
    rintro x w3 ⟨rfl, rfl⟩
    go_wp2_with fail
    go_ret
    exact ⟨rfl, Fr.refl _ _⟩
  · rw [x1] at K1
    rw [Bool.true_and]
    cases x2 : sectionsB l
    · rw [x2] at K2
      rw [Bool.false_and, e6]
      clear x1 x2 e6 e0 K4
      go_enter Tryz.func37, Tryz.ntmps37
      go_wp2_with fail
      refine (K1 _).mono ?_
      clear K1
      rintro x w3 ⟨rfl, rfl⟩
      go_wp2_with fail
      refine (K2 _ h1).mono ?_
      clear K2
      rintro x w4 ⟨rfl, f4⟩
      go_wp2_with fail
      go_ret
      exact ⟨rfl, f4⟩
    · rw [x2] at K2
      rw [Bool.true_and]
      cases x3 : jointsB l js
      · rw [x3] at K3
        rw [Bool.false_and, e6]
        clear x1 x2 x3 e6 e0 K4
        go_enter Tryz.func37, Tryz.ntmps37
        go_wp2_with fail
        refine (K1 _).mono ?_
        clear K1
        rintro x w3 ⟨rfl, rfl⟩
        go_wp2_with fail
        refine (K2 _ h1).mono ?_
        clear K2
        rintro x w4 ⟨rfl, f4⟩
        go_wp2_with fail
        refine (K3 _ (h1.fr f4 fun _ _ => id) (h2.fr f4 fun _ _ => id)).mono ?_
        clear K3
        rintro x w5 ⟨rfl, f5⟩
        go_wp2_with fail
        go_ret
        exact ⟨rfl, fr_nil f4 f5⟩
      · rw [x3] at K3
        rw [Bool.true_and]
        have K5 := fun w h h' => K4 w h h' x2
        cases x4 : linesB js 0 tk0 l
        · rw [show linesB js 0 [false, false, false, false] l = false from x4] at K5
          rw [e6]
          clear x1 x2 x3 x4 e6 e0 K4
          go_enter Tryz.func37, Tryz.ntmps37
          go_wp2_with fail
          refine (K1 _).mono ?_
          clear K1
          rintro x w3 ⟨rfl, rfl⟩
          go_wp2_with fail
          refine (K2 _ h1).mono ?_
          clear K2
          rintro x w4 ⟨rfl, f4⟩
          go_wp2_with fail
          refine (K3 _ (h1.fr f4 fun _ _ => id) (h2.fr f4 fun _ _ => id)).mono ?_
          clear K3
          rintro x w5 ⟨rfl, f5⟩
          have f6 := fr_nil f4 f5
          go_wp2_with fail
          refine (K5 _ (h1.fr f6 fun _ _ => id) (h2.fr f6 fun _ _ => id)).mono ?_
          clear K5
          rintro x w6 ⟨rfl, f7⟩
          go_wp2_with fail
          go_ret
          exact ⟨rfl, fr_nil f6 f7⟩
        · rw [show linesB js 0 [false, false, false, false] l = true from x4] at K5
          rw [e0]
          clear x1 x2 x3 x4 e6 e0 K4
          go_enter Tryz.func37, Tryz.ntmps37
          go_wp2_with fail
          refine (K1 _).mono ?_
          clear K1
          rintro x w3 ⟨rfl, rfl⟩
          go_wp2_with fail
          refine (K2 _ h1).mono ?_
          clear K2
          rintro x w4 ⟨rfl, f4⟩
          go_wp2_with fail
          refine (K3 _ (h1.fr f4 fun _ _ => id) (h2.fr f4 fun _ _ => id)).mono ?_
          clear K3
          rintro x w5 ⟨rfl, f5⟩
          have f6 := fr_nil f4 f5
          go_wp2_with fail
          refine (K5 _ (h1.fr f6 fun _ _ => id) (h2.fr f6 fun _ _ => id)).mono ?_
          clear K5
          rintro x w6 ⟨rfl, f7⟩
          go_wp2_with fail
          go_ret
          exact ⟨rfl, fr_nil f6 f7⟩
end Go.Proofs.YtkkohdmneognlaaGreatDoor

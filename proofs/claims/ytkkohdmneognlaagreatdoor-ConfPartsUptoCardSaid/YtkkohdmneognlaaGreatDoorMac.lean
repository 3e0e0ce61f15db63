/- Plain mathematics of right plans: what stands where, joints both ways round, and the document's own way of checking. -/
import Derived.Test.YtkkohdmneognlaaGreatDoorMab
import Derived.Deep.QuietTactic
import Derived.BigQuiet
namespace Go.Proofs.YtkkohdmneognlaaGreatDoor

/-- in how many places of the joints an end stands -/
def countM : List Jo → Int → Int → Nat
  | [], _, _ => 0
  | j :: r, s, e => (if jA j s e = true then 1 else 0) + (if jB j s e = true then 1 else 0) + countM r s e

theorem jA_iff (j : Jo) (s e : Int) : jA j s e = true ↔ j.a = s ∧ j.ae = e := by simp [jA]
theorem jB_iff (j : Jo) (s e : Int) : jB j s e = true ↔ j.b = s ∧ j.be = e := by simp [jB]

theorem count_next : ∀ (js : List Jo) (s e : Int), countM js s e = 0 ↔ nextOk js s e = false
  | [], _, _ => by simp [countM, nextOk]
  | j :: r, s, e => by
    have ih := count_next r s e
    rw [countM, nextOk]
    cases jA j s e <;> cases jB j s e <;> simp [ih]

theorem next_mem : ∀ {js : List Jo} {s e : Int}, nextOk js s e = true ↔ ∃ j ∈ js, jA j s e = true ∨ jB j s e = true
  | [], _, _ => by simp [nextOk]
  | j :: r, s, e => by
    rw [nextOk, Bool.or_eq_true, Bool.or_eq_true, next_mem (js := r)]
    simp

theorem joOk_parts {l : List Sec} {j : Jo} (h : joOkB l j = true) : j.a ≠ j.b ∧ isEndB l j.a j.ae = true ∧ isEndB l j.b j.be = true := by
  unfold joOkB at h
  simp only [Bool.and_eq_true, Bool.not_eq_true', beq_eq_false_iff_ne] at h
  exact ⟨h.1.1, h.1.2, h.2⟩

/-- On a right plan what meets an end is met by it. -/
theorem next_back {l : List Sec} : ∀ {js : List Jo}, jointsB l js = true → ∀ {s e : Int}, nextOk js s e = true →
    nextOk js (nextS js s e) (nextE js s e) = true ∧ nextS js (nextS js s e) (nextE js s e) = s ∧ nextE js (nextS js s e) (nextE js s e) = e ∧ nextS js s e ≠ s ∧ isEndB l (nextS js s e) (nextE js s e) = true
  | [], _, _, _, h => by cases h
  | j :: r, hr, s, e, h => by
    rw [jointsB, Bool.and_eq_true, Bool.and_eq_true, Bool.and_eq_true, Bool.not_eq_true', Bool.not_eq_true'] at hr
    obtain ⟨⟨h1, h2, h3⟩, h4⟩ := hr
    obtain ⟨hne, e1, e2⟩ := joOk_parts h1
    by_cases hA : jA j s e = true
    · obtain ⟨rfl, rfl⟩ := (jA_iff _ _ _).1 hA
      have k1 : nextS (j :: r) j.a j.ae = j.b := by rw [nextS, if_pos hA]
      have k2 : nextE (j :: r) j.a j.ae = j.be := by rw [nextE, if_pos hA]
      have nA : jA j j.b j.be ≠ true := fun h => hne ((jA_iff _ _ _).1 h).1
      have yB : jB j j.b j.be = true := (jB_iff _ _ _).2 ⟨rfl, rfl⟩
      rw [k1, k2]
      refine ⟨?_, ?_, ?_, fun h => hne h.symm, e2⟩
      · rw [nextOk, yB]; simp
      · rw [nextS, if_neg nA, if_pos yB]
      · rw [nextE, if_neg nA, if_pos yB]
    · by_cases hB : jB j s e = true
      · obtain ⟨rfl, rfl⟩ := (jB_iff _ _ _).1 hB
        have k1 : nextS (j :: r) j.b j.be = j.a := by rw [nextS, if_neg hA, if_pos hB]
        have k2 : nextE (j :: r) j.b j.be = j.ae := by rw [nextE, if_neg hA, if_pos hB]
        have yA : jA j j.a j.ae = true := (jA_iff _ _ _).2 ⟨rfl, rfl⟩
        rw [k1, k2]
        refine ⟨?_, ?_, ?_, hne, e1⟩
        · rw [nextOk, yA]; simp
        · rw [nextS, if_pos yA]
        · rw [nextE, if_pos yA]
      · have hn : nextOk r s e = true := by
          rw [nextOk, Bool.or_eq_true, Bool.or_eq_true] at h
          rcases h with (h | h) | h
          · exact absurd h hA
          · exact absurd h hB
          · exact h
        have k1 : nextS (j :: r) s e = nextS r s e := by rw [nextS, if_neg hA, if_neg hB]
        have k2 : nextE (j :: r) s e = nextE r s e := by rw [nextE, if_neg hA, if_neg hB]
        obtain ⟨i1, i2, i3, i4, i5⟩ := next_back h4 hn
        rw [k1, k2]
        have nA : jA j (nextS r s e) (nextE r s e) ≠ true := fun h => by
          obtain ⟨a1, a2⟩ := (jA_iff _ _ _).1 h
          rw [a1, a2] at h2
          rw [h2] at i1
          cases i1
        have nB : jB j (nextS r s e) (nextE r s e) ≠ true := fun h => by
          obtain ⟨a1, a2⟩ := (jB_iff _ _ _).1 h
          rw [a1, a2] at h3
          rw [h3] at i1
          cases i1
        refine ⟨?_, ?_, ?_, i4, i5⟩
        · rw [nextOk, i1]; simp
        · rw [nextS, if_neg nA, if_neg nB]; exact i2
        · rw [nextE, if_neg nA, if_neg nB]; exact i3

/-- a joint of the document's check -/
def rjoB (l : List Sec) (js : List Jo) (j : Jo) : Bool := joOkB l j && (decide (countM js j.a j.ae ≤ 1) && decide (countM js j.b j.be ≤ 1))
theorem joints_ref {l : List Sec} : ∀ (js : List Jo), jointsB l js = true ↔ ∀ j ∈ js, rjoB l js j = true
  | [] => by simp [jointsB]
  | j :: r => by
    have ih := joints_ref (l := l) r
    rw [jointsB, Bool.and_eq_true, Bool.and_eq_true, Bool.and_eq_true, Bool.not_eq_true', Bool.not_eq_true', ih]
    constructor
    · rintro ⟨⟨h1, h2, h3⟩, h4⟩
      obtain ⟨hne, _, _⟩ := joOk_parts h1
      intro j' hj'
      rcases List.mem_cons.1 hj' with rfl | hr
      · unfold rjoB
        have c1 := (count_next r j'.a j'.ae).2 h2
        have c2 := (count_next r j'.b j'.be).2 h3
        have n1 : jB j' j'.a j'.ae ≠ true := fun h => hne ((jB_iff _ _ _).1 h).1.symm
        have n2 : jA j' j'.b j'.be ≠ true := fun h => hne ((jA_iff _ _ _).1 h).1
        rw [h1, countM, countM, c1, c2, if_neg n1, if_neg n2]
        simp
        constructor <;> split <;> omega
      · have h5 := h4 j' hr
        unfold rjoB at h5 ⊢
        rw [Bool.and_eq_true, Bool.and_eq_true, decide_eq_true_eq, decide_eq_true_eq] at h5 ⊢
        obtain ⟨k1, k2, k3⟩ := h5
        have m1 : jA j j'.a j'.ae ≠ true := fun h => by
          obtain ⟨a1, a2⟩ := (jA_iff _ _ _).1 h
          have : nextOk r j.a j.ae = true := next_mem.2 ⟨j', hr, .inl ((jA_iff _ _ _).2 ⟨a1.symm, a2.symm⟩)⟩
          rw [h2] at this; cases this
        have m2 : jB j j'.a j'.ae ≠ true := fun h => by
          obtain ⟨a1, a2⟩ := (jB_iff _ _ _).1 h
          have : nextOk r j.b j.be = true := next_mem.2 ⟨j', hr, .inl ((jA_iff _ _ _).2 ⟨a1.symm, a2.symm⟩)⟩
          rw [h3] at this; cases this
        have m3 : jA j j'.b j'.be ≠ true := fun h => by
          obtain ⟨a1, a2⟩ := (jA_iff _ _ _).1 h
          have : nextOk r j.a j.ae = true := next_mem.2 ⟨j', hr, .inr ((jB_iff _ _ _).2 ⟨a1.symm, a2.symm⟩)⟩
          rw [h2] at this; cases this
        have m4 : jB j j'.b j'.be ≠ true := fun h => by
          obtain ⟨a1, a2⟩ := (jB_iff _ _ _).1 h
          have : nextOk r j.b j.be = true := next_mem.2 ⟨j', hr, .inr ((jB_iff _ _ _).2 ⟨a1.symm, a2.symm⟩)⟩
          rw [h3] at this; cases this
        rw [countM, countM, if_neg m1, if_neg m2, if_neg m3, if_neg m4]
        exact ⟨k1, by omega, by omega⟩
    · intro h
      have h0 := h j (by simp)
      unfold rjoB at h0
      rw [Bool.and_eq_true, Bool.and_eq_true, decide_eq_true_eq, decide_eq_true_eq] at h0
      obtain ⟨k1, k2, k3⟩ := h0
      have y1 : jA j j.a j.ae = true := (jA_iff _ _ _).2 ⟨rfl, rfl⟩
      have y2 : jB j j.b j.be = true := (jB_iff _ _ _).2 ⟨rfl, rfl⟩
      rw [countM, if_pos y1] at k2
      rw [countM, if_pos y2] at k3
      refine ⟨⟨k1, (count_next _ _ _).1 (by omega), (count_next _ _ _).1 (by omega)⟩, fun j' hr => ?_⟩
      have h5 := h j' (by simp [hr])
      unfold rjoB at h5 ⊢
      rw [Bool.and_eq_true, Bool.and_eq_true, decide_eq_true_eq, decide_eq_true_eq] at h5 ⊢
      rw [countM, countM] at h5
      exact ⟨h5.1, by omega, by omega⟩

/-- a section of the document's check: the one at i, the lines of those ahead of it -/
def lineIn (ln : Int) : List Sec → Bool
  | [] => false
  | s :: r => (s.line == ln) || lineIn ln r
theorem lineIn_iff (ln : Int) : ∀ (l : List Sec), lineIn ln l = true ↔ ∃ s ∈ l, s.line = ln
  | [] => by simp [lineIn]
  | s :: r => by
    rw [lineIn, Bool.or_eq_true, lineIn_iff ln r]
    simp
def rsecB (js : List Jo) (i : Nat) (ahead : List Sec) (s : Sec) : Bool := secOkB s && ((s.line == 0) || ((s.kind == 0) && (countM js i 1 == 0) && !lineIn s.line ahead))
def rsecsB (js : List Jo) : Nat → List Sec → List Sec → Bool
  | _, _, [] => true
  | i, ahead, s :: r => rsecB js i ahead s && rsecsB js (i + 1) (ahead ++ [s]) r

theorem count_zero (js : List Jo) (s e : Int) : (countM js s e == 0) = !nextOk js s e := by
  have h := count_next js s e
  cases hn : nextOk js s e
  · rw [hn] at h
    simp [h.2 rfl]
  · rw [hn] at h
    have : countM js s e ≠ 0 := fun e => by have := h.1 e; cases this
    simp [this]

/-- The two ways of checking lines come to the same. -/
theorem lines_ref (js : List Jo) : ∀ (r : List Sec) (i : Nat) (tk : List Bool) (ahead : List Sec), tk.length = 4 → (∀ m : Nat, m < 4 → m ≠ 0 → seenAt tk m = lineIn (m : Nat) ahead) →
    (sectionsB r && linesB js i tk r) = rsecsB js i ahead r
  | [], _, _, _, _, _ => rfl
  | s :: r, i, tk, ahead, htk, hs => by
    rw [sectionsB, linesB, rsecsB, rsecB]
    cases hok : secOkB s
    · simp
    · obtain ⟨m, hm, hm4⟩ := sec_line hok
      rw [hm, Int.toNat_natCast, count_zero]
      by_cases h0 : m = 0
      · subst h0
        have ih := lines_ref js r (i + 1) tk (ahead ++ [s]) htk (fun n hn hn0 => by
          rw [hs n hn hn0, Bool.eq_iff_iff, lineIn_iff, lineIn_iff]
          constructor
          · rintro ⟨x, hx, e⟩
            exact ⟨x, by simp [hx], e⟩
          · rintro ⟨x, hx, e⟩
            rcases List.mem_append.1 hx with hx | hx
            · exact ⟨x, hx, e⟩
            · have : x = s := by simpa using hx
              subst this
              omega)
        rw [← ih]
        simp
      · rw [if_neg (by omega), hs m hm4 h0]
        have hml : ((m : Int) == 0) = false := by simp; omega
        rw [hml]
        have ih := lines_ref js r (i + 1) (tk.set m true) (ahead ++ [s]) (by rw [List.length_set]; exact htk) (fun n hn hn0 => by
          rw [seenAt_set _ _ _ (by omega), hs n hn hn0, Bool.eq_iff_iff, Bool.or_eq_true, lineIn_iff, lineIn_iff, decide_eq_true_eq]
          constructor
          · rintro (rfl | ⟨x, hx, e⟩)
            · exact ⟨s, by simp, hm⟩
            · exact ⟨x, by simp [hx], e⟩
          · rintro ⟨x, hx, e⟩
            rcases List.mem_append.1 hx with hx | hx
            · exact .inr ⟨x, hx, e⟩
            · have : x = s := by simpa using hx
              subst this
              exact .inl (by omega))
        rw [← ih]
        cases lineIn (m : Nat) ahead <;> cases (s.kind == 0) <;> cases nextOk js i 1 <;> cases sectionsB r <;> simp

theorem all_iff {α : Type} {f : α → Bool} : ∀ {l : List α}, l.all f = true ↔ ∀ x ∈ l, f x = true := by
  intro l
  exact List.all_eq_true
/-- The document's check. -/
def rcheckB (l : List Sec) (js : List Jo) : Bool := sizesB l js && (rsecsB js 0 [] l && js.all (rjoB l js))
theorem check_ref (l : List Sec) (js : List Jo) : checkB l js = rcheckB l js := by
  unfold checkB rcheckB
  have h1 := lines_ref js l 0 tk0 [] rfl (fun m hm h0 => by
    match m, hm, h0 with
    | 1, _, _ => rfl
    | 2, _, _ => rfl
    | 3, _, _ => rfl)
  rw [← h1]
  have h2 : jointsB l js = js.all (rjoB l js) := by rw [Bool.eq_iff_iff, joints_ref, List.all_eq_true]
  rw [← h2]
  cases sectionsB l <;> cases jointsB l js <;> cases linesB js 0 tk0 l <;> simp
end Go.Proofs.YtkkohdmneognlaaGreatDoor
/- The contracts of the document's own answers of ways: Ends, Way, Pos; and of counting in how many places an end stands. -/
namespace Go.Proofs.YtkkohdmneognlaaGreatDoor
open Go.RowKit

theorem rways_any (k : Int) (w : World) : Calls Tryz.prog 105 #[.int .i64 k] w (SomeWays (· ≤ ·) w (waysM k)) := by
  rcases kind_cases k with rfl | rfl | rfl | hk
  · go_enter Tryz.func105, Tryz.ntmps105
    go_wp2
    go_ret
    exact ⟨_, _, rfl, lit_rd _ _ _, Nat.le_refl _, (Fr.refl _ _).alloc _⟩
  · go_enter Tryz.func105, Tryz.ntmps105
    go_wp2
    go_ret
    exact ⟨_, _, rfl, lit_rd _ _ _, Nat.le_refl _, (Fr.refl _ _).alloc _⟩
  · go_enter Tryz.func105, Tryz.ntmps105
    go_wp2
    go_ret
    exact ⟨_, _, rfl, lit_rd _ _ _, Nat.le_refl _, (Fr.refl _ _).alloc _⟩
  · rw [ways_none hk]
    have e0 : (k == 0) = false := by simp [hk]
    have e1 : (k == 1) = false := by simp [hk]
    have e2 : (k == 2) = false := by simp [hk]
    clear hk
    go_enter Tryz.func105, Tryz.ntmps105
    go_wp2
    go_ret
    exact ⟨_, _, rfl, fun h => by simp [cellsW] at h, Nat.le_refl _, Fr.refl _ _⟩

/-- the greatest end of a list of ways, and one -/
def topL : List Wy → Int → Int
  | [], n => n
  | v :: r, n => topL r (max (max n (v.a + 1)) (v.b + 1))
theorem topL_ends (k : Int) : topL (waysM k) 0 = endsM k := by
  rcases kind_cases k with rfl | rfl | rfl | hk
  · decide
  · decide
  · decide
  · rw [ways_none hk, ends_none.2 hk]
    rfl
theorem way_lo {k : Int} {v : Wy} (h : v ∈ waysM k) : 0 ≤ v.a ∧ v.a ≤ 3 ∧ 0 ≤ v.b ∧ v.b ≤ 3 ∧ v.a ≠ v.b := by
  rcases kind_cases k with rfl | rfl | rfl | hk
  · have : v = ⟨0, 1, 0⟩ := by simpa [waysM] using h
    subst this; simp
  · have : v = ⟨0, 1, 1⟩ ∨ v = ⟨0, 2, 2⟩ := by simpa [waysM] using h
    rcases this with rfl | rfl <;> simp
  · have : v = ⟨0, 1, 0⟩ ∨ v = ⟨2, 3, 0⟩ := by simpa [waysM] using h
    rcases this with rfl | rfl <;> simp
  · rw [ways_none hk] at h
    simp at h

set_option maxHeartbeats 1000000 in
theorem rends_any (k : Int) (w : World) : Calls Tryz.prog 61 #[.int .i64 k] w fun e w' => e = .returned (.int .i64 (endsM k)) ∧ Fr (fun _ => False) w w' := by
  rw [← topL_ends]
  have KW := rways_any k
  have hs := ways_short k
  have hlo := fun v h => way_lo (k := k) (v := v) h
  generalize waysM k = l at *
  generalize hO : topL l 0 = O
  have HO := Lib.hid hO
  have HLO := Lib.hid hlo
  clear hO hlo
  go_enter Tryz.func61, Tryz.ntmps61
  go_wp2_with fail
  refine (KW _).mono ?_
  clear KW
  rintro e w1 ⟨A, c, rfl, hr, hc, f1⟩
  go_wp2_with fail
  go_loopw [3, 9] (fun n t wr => ∃ (j : Nat) (m : Int), j ≤ l.length ∧ t = .int .i64 (j : Nat) ∧ n = .int .i64 m ∧ 0 ≤ m ∧ m ≤ 4 ∧ topL (l.drop j) m = O ∧ Fr (fun _ => False) w1 wr) (fun _ t _ => l.length - (intOf t).toNat)
  case atStart => exact ⟨0, 0, Nat.zero_le _, rfl, rfl, by omega, by omega, HO.out, Fr.refl _ _⟩
  case round =>
    obtain ⟨j, m, hj, rfl, rfl, hm0, hm4, hO, fr⟩ := hrel
    by_cases hlt : j < l.length
    · obtain ⟨g, o, rfl, c0, c1, c2⟩ := rd_ways (hr.fr fr fun _ _ => id) hlt
      obtain ⟨b0, b1, b2, b3, _⟩ := HLO.out l[j] (List.getElem_mem hlt)
      rw [List.drop_eq_getElem_cons hlt, topL] at hO
      generalize l[j] = v at *
      obtain ⟨va, vb, vp⟩ := v
      simp only at *
      have hx1 : (if va + 1 > m then va + 1 else m) = max m (va + 1) := by split <;> omega
      have hx2 : (if vb + 1 > max m (va + 1) then vb + 1 else max m (va + 1)) = max (max m (va + 1)) (vb + 1) := by split <;> omega
      have hx0 : 0 ≤ max (max m (va + 1)) (vb + 1) := by omega
      have hx4 : max (max m (va + 1)) (vb + 1) ≤ 4 := by omega
      generalize max (max m (va + 1)) (vb + 1) = M at *
      generalize max m (va + 1) = m1 at *
      have HO1 := Lib.hid hO
      have hmax : ∀ W, (Builtin.max_ #[3, 3, 3] 3 #[.int .i64 m, .int .i64 (va + 1), .int .i64 (vb + 1)]).run Tryz.prog W = .ok (.int .i64 M) W := fun W => by
        have e : (Builtin.max_ #[3, 3, 3] 3 #[.int .i64 m, .int .i64 (va + 1), .int .i64 (vb + 1)]).run Tryz.prog W = .ok (.int .i64 (if vb + 1 > (if va + 1 > m then va + 1 else m) then vb + 1 else (if va + 1 > m then va + 1 else m))) W := by simp [Builtin.max_, Builtin.max2]
        rw [e, hx1, hx2]
      clear hO HO hx1 hx2
      go_wp2_with fail
      clear hmax
      go_wp2_with fail
      go_roundw
      case rel => exact ⟨j + 1, M, by omega, by go_num, rfl, hx0, hx4, HO1.out, fr.alloc _⟩
      case measure => simp [intOf]; omega
    · have hjl : j = l.length := by omega
      subst hjl
      rw [List.drop_length] at hO
      have hO' : m = O := hO
      subst hO'
      clear hO
      go_wp2_with fail
      go_ret
      exact ⟨rfl, fr_nil f1 fr⟩
end Go.Proofs.YtkkohdmneognlaaGreatDoor
/- The contracts of the document's own Pos, and of counting in how many places an end stands. -/
namespace Go.Proofs.YtkkohdmneognlaaGreatDoor
open Go.RowKit

theorem pos_tests (v : Wy) (i o : Int) (h : v.a ≠ v.b) : (farOk v i && decide (farOut v i = o)) = ((decide (v.a = i) && decide (v.b = o)) || (decide (v.b = i) && decide (v.a = o))) := by
  unfold farOk farOut
  rw [Bool.eq_iff_iff]
  by_cases h1 : i = v.a
  · have : v.b ≠ i := fun e => h (by omega)
    simp [h1]
    omega
  · by_cases h2 : i = v.b
    · have : v.a ≠ i := fun e => h (by omega)
      simp [h2]
      omega
    · simp [h1, h2]
      omega

set_option maxHeartbeats 2000000 in
theorem rpos_any (k i p : Int) (w : World) : Calls Tryz.prog 96 #[.int .i64 k, .int .i64 i, .int .i64 p] w fun e w' => e = .returned (.tuple #[.int .i64 (posOut k i p), .bool (posOk k i p)]) ∧ Fr (fun _ => False) w w' := by
  unfold posOut posOk
  have KW := rways_any k
  have hs := ways_short k
  have hlo := fun v h => (way_lo (k := k) (v := v) h).2.2.2.2
  generalize waysM k = l at *
  generalize hO : posOutL l i p = O
  generalize hK : posOkL l i p = K
  have HO := Lib.hid hO
  have HK := Lib.hid hK
  have HLO := Lib.hid hlo
  clear hO hK hlo
  go_enter Tryz.func96, Tryz.ntmps96
  go_wp2_with fail
  refine (KW _).mono ?_
  clear KW
  rintro e w1 ⟨A, c, rfl, hr, hc, f1⟩
  go_wp2_with fail
  go_loopw [13] (fun t wr => ∃ j : Nat, j ≤ l.length ∧ t = .int .i64 (j : Nat) ∧ posOutL (l.drop j) i p = O ∧ posOkL (l.drop j) i p = K ∧ Fr (fun _ => False) w1 wr) (fun t _ => l.length - (intOf t).toNat)
  case atStart => exact ⟨0, Nat.zero_le _, rfl, HO.out, HK.out, Fr.refl _ _⟩
  case round =>
    clear HO HK
    obtain ⟨j, hj, rfl, hO, hK, fr⟩ := hrel
    by_cases hlt : j < l.length
    · obtain ⟨g, o, rfl, c0, c1, c2⟩ := rd_ways (hr.fr fr fun _ _ => id) hlt
      have hne := HLO.out l[j] (List.getElem_mem hlt)
      rw [List.drop_eq_getElem_cons hlt, posOutL, pos_tests _ _ _ hne] at hO
      rw [List.drop_eq_getElem_cons hlt, posOkL, pos_tests _ _ _ hne] at hK
      generalize l[j] = v at *
      have hA := two_tests v.a i v.b p
      have hB := two_tests v.b i v.a p
      generalize (decide (v.a = i) && decide (v.b = p)) = x at *
      generalize (decide (v.b = i) && decide (v.a = p)) = y at *
      obtain ⟨va, vb, vp⟩ := v
      simp only at *
      clear hr hne
      rcases hA with ⟨a1, a2, rfl⟩ | ⟨a1, rfl⟩ | ⟨a1, a2, rfl⟩
      · simp at hO hK
        subst hO hK
        clear hB
        go_wp2_with fail
        go_ret2
        exact ⟨rfl, fr_nil f1 (fr.alloc _)⟩
      all_goals
        rcases hB with ⟨b1, b2, rfl⟩ | ⟨b1, rfl⟩ | ⟨b1, b2, rfl⟩
        · simp at hO hK
          subst hO hK
          go_wp2_with fail
          go_ret2
          exact ⟨rfl, fr_nil f1 (fr.alloc _)⟩
        all_goals
          simp at hO hK
          have HO := Lib.hid hO
          have HK := Lib.hid hK
          clear hO hK
          go_wp2_with fail
          go_roundw
          case rel => exact ⟨j + 1, by omega, by go_num, HO.out, HK.out, fr.alloc _⟩
          case measure => simp [intOf]; omega
    · have hjl : j = l.length := by omega
      subst hjl
      rw [List.drop_length] at hO hK
      have hO' : 0 = O := hO
      have hK' : false = K := hK
      subst hO' hK'
      clear hO hK
      go_wp2_with fail
      go_ret2
      exact ⟨rfl, fr_nil f1 fr⟩

set_option maxHeartbeats 2000000 in
theorem count_any {A : Option Addr} {c : Nat} {l : List Jo} (s e : Int) (w : World) (hr : Rd w A (cellsJ l)) (hl : l.length ≤ 1000000) :
    Calls Tryz.prog 94 #[.slice A l.length c, .int .i64 s, .int .i64 e] w fun x w' => x = .returned (.int .i64 (countM l s e : Nat)) ∧ Fr (fun _ => False) w w' := by
  generalize hO : countM l s e = O
  have HO := Lib.hid hO
  clear hO
  go_enter Tryz.func94, Tryz.ntmps94
  go_wp2_with fail
  go_loopw [7, 12] (fun n t wr => ∃ (j m : Nat), j ≤ l.length ∧ t = .int .i64 (j : Nat) ∧ n = .int .i64 (m : Nat) ∧ m ≤ 2 * j ∧ m + countM (l.drop j) s e = O ∧ Fr (fun _ => False) w wr) (fun _ t _ => l.length - (intOf t).toNat)
  case atStart => exact ⟨0, 0, Nat.zero_le _, rfl, rfl, by omega, by rw [List.drop_zero, Nat.zero_add]; exact HO.out, Fr.refl _ _⟩
  case round =>
    clear HO
    obtain ⟨j, m, hj, rfl, rfl, hm, hO, fr⟩ := hrel
    by_cases hlt : j < l.length
    · obtain ⟨g, o, rfl, c0, c1, c2, c3⟩ := rd_jo (hr.fr fr fun _ _ => id) hlt
      rw [List.drop_eq_getElem_cons hlt, countM] at hO
      unfold jA jB at hO
      generalize l[j] = v at *
      have hA := two_tests v.a s v.ae e
      have hB := two_tests v.b s v.be e
      generalize (decide (v.a = s) && decide (v.ae = e)) = x at *
      generalize (decide (v.b = s) && decide (v.be = e)) = y at *
      obtain ⟨va, vae, vb, vbe⟩ := v
      simp only at *
      clear hr
      rcases hA with ⟨a1, a2, rfl⟩ | ⟨a1, rfl⟩ | ⟨a1, a2, rfl⟩
      all_goals
        rcases hB with ⟨b1, b2, rfl⟩ | ⟨b1, rfl⟩ | ⟨b1, b2, rfl⟩
        all_goals
          simp only [if_true, Bool.false_eq_true, if_false] at hO
          have HO := Lib.hid hO
          clear hO
          go_wp2_with fail
          go_roundw
          case rel => first | exact ⟨j + 1, m, by omega, by go_num, rfl, by omega, by have := HO.out; omega, fr.alloc _⟩ | exact ⟨j + 1, m + 1, by omega, by go_num, by go_num, by omega, by have := HO.out; omega, fr.alloc _⟩ | exact ⟨j + 1, m + 2, by omega, by go_num, by go_num, by omega, by have := HO.out; omega, fr.alloc _⟩
          case measure => simp [intOf]; omega
    · have hjl : j = l.length := by omega
      subst hjl
      rw [List.drop_length] at hO
      have hO' : m = O := hO
      subst hO'
      clear hO
      go_wp2_with fail
      go_ret
      exact ⟨rfl, fr⟩
end Go.Proofs.YtkkohdmneognlaaGreatDoor
/- A region that draws its order, whose calls may make memory but leave all that was there: walked once, in the text's order. The class of worlds: those that a frame leads to. Nothing here speaks of the program. -/
namespace Go.Proofs.YtkkohdmneognlaaGreatDoor
open Go.RowKit

/-- a world to which a frame leads from wo -/
structure Fro (wo : World) where
  w : World
  f : Fr (fun _ => False) wo w
instance (wo : World) : Nonempty (Fro wo) := ⟨⟨wo, Fr.refl _ _⟩⟩

theorem region_fro {P : Program} {id : Nat} {Q : Exit → Act → World → Prop} {a : Act} {w : World} {l : List Oper} (hm : P.follows .mixedOrders = true) (hB : Region.lexB .any l.toArray = true)
    (h : wpQuiet P l.toArray (fun w' => ∃ u : Fro w, w' = u.w) (fun a' => ∀ w', (∃ u : Fro w, w' = u.w) → Q .normal a' w') l a) : (Code.region id l.toArray true).wp P Q a w :=
  wp_region_quiet (C := fun w' => ∃ u : Fro w, w' = u.w) hm hB ⟨⟨w.drew, (Fr.refl _ _).drew⟩, rfl⟩ (by simpa using h)
theorem call_fro {P : Program} {f : FuncId} {args : Array Value} {v : Value} {wo : World} {u : Fro wo} (h : Calls P f args u.w fun e w' => e = .returned v ∧ Fr (fun _ => False) u.w w') :
    Calls P f args u.w fun e w'' => e = .returned v ∧ ∃ m : Fro wo, w'' = m.w :=
  h.mono fun _ w'' ⟨he, hf⟩ => ⟨he, ⟨w'', u.f.trans hf fun _ _ h => h⟩, rfl⟩
theorem call_fro_same {P : Program} {f : FuncId} {args : Array Value} {v : Value} {wo : World} {u : Fro wo} (h : Calls P f args u.w fun e w' => e = .returned v ∧ u.w = w') :
    Calls P f args u.w fun e w'' => e = .returned v ∧ ∃ m : Fro wo, w'' = m.w :=
  h.mono fun _ _ ⟨he, hf⟩ => ⟨he, u, hf.symm⟩
theorem cell_fro {wo : World} {p : Addr} {v : Value} (h : wo.cell? p = some v) : ∀ u : Fro wo, u.w.cell? p = some v := fun u =>
  (u.f.cell (World.block_lt_of_cell? _ p h) id).trans h
theorem rd_fro {wo : World} {A : Option Addr} {xs : List Value} (h : Rd wo A xs) : ∀ u : Fro wo, Rd u.w A xs := fun u => h.fr u.f fun _ _ => id
end Go.Proofs.YtkkohdmneognlaaGreatDoor

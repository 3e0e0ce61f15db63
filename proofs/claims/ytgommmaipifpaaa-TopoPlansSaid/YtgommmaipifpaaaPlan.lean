/- Plain mathematics of right plans: what stands where, joints both ways round, and the document's own way of checking. -/
import Derived.Test.YtgommmaipifpaaaLines
import Derived.Test.YtgommmaipifpaaaCheck
namespace Go.Proofs.Ytgommmaipifpaaa

/-- in how many places of the joints an end stands -/
def countM : List Jo → Int → Int → Nat
  | [], _, _ => 0
  | j :: r, s, e => (if jA j s e = true then 1 else 0) + (if jB j s e = true then 1 else 0) + countM r s e

theorem jA_iff (j : Jo) (s e : Int) : jA j s e = true ↔ j.a = s ∧ j.ae = e := by simp [jA]
theorem jB_iff (j : Jo) (s e : Int) : jB j s e = true ↔ j.b = s ∧ j.be = e := by simp [jB]

theorem count_next : ∀ (js : List Jo) (s e : Int), countM js s e = 0 ↔ nextOk js s e = false
  | [], _, _ => by simp [countM, nextOk]
  | j :: r, s, e => by
    have ih := count_next r s e
    rw [countM, nextOk]
    cases jA j s e <;> cases jB j s e <;> simp [ih]

theorem next_mem : ∀ {js : List Jo} {s e : Int}, nextOk js s e = true ↔ ∃ j ∈ js, jA j s e = true ∨ jB j s e = true
  | [], _, _ => by simp [nextOk]
  | j :: r, s, e => by
    rw [nextOk, Bool.or_eq_true, Bool.or_eq_true, next_mem (js := r)]
    simp

theorem joOk_parts {l : List Sec} {j : Jo} (h : joOkB l j = true) : j.a ≠ j.b ∧ isEndB l j.a j.ae = true ∧ isEndB l j.b j.be = true := by
  unfold joOkB at h
  simp only [Bool.and_eq_true, Bool.not_eq_true', beq_eq_false_iff_ne] at h
  exact ⟨h.1.1, h.1.2, h.2⟩

/-- On a right plan what meets an end is met by it. -/
theorem next_back {l : List Sec} : ∀ {js : List Jo}, jointsB l js = true → ∀ {s e : Int}, nextOk js s e = true →
    nextOk js (nextS js s e) (nextE js s e) = true ∧ nextS js (nextS js s e) (nextE js s e) = s ∧ nextE js (nextS js s e) (nextE js s e) = e ∧ nextS js s e ≠ s ∧ isEndB l (nextS js s e) (nextE js s e) = true
  | [], _, _, _, h => by cases h
  | j :: r, hr, s, e, h => by
    rw [jointsB, Bool.and_eq_true, Bool.and_eq_true, Bool.and_eq_true, Bool.not_eq_true', Bool.not_eq_true'] at hr
    obtain ⟨⟨h1, h2, h3⟩, h4⟩ := hr
    obtain ⟨hne, e1, e2⟩ := joOk_parts h1
    by_cases hA : jA j s e = true
    · obtain ⟨rfl, rfl⟩ := (jA_iff _ _ _).1 hA
      have k1 : nextS (j :: r) j.a j.ae = j.b := by rw [nextS, if_pos hA]
      have k2 : nextE (j :: r) j.a j.ae = j.be := by rw [nextE, if_pos hA]
      have nA : jA j j.b j.be ≠ true := fun h => hne ((jA_iff _ _ _).1 h).1
      have yB : jB j j.b j.be = true := (jB_iff _ _ _).2 ⟨rfl, rfl⟩
      rw [k1, k2]
      refine ⟨?_, ?_, ?_, fun h => hne h.symm, e2⟩
      · rw [nextOk, yB]; simp
      · rw [nextS, if_neg nA, if_pos yB]
      · rw [nextE, if_neg nA, if_pos yB]
    · by_cases hB : jB j s e = true
      · obtain ⟨rfl, rfl⟩ := (jB_iff _ _ _).1 hB
        have k1 : nextS (j :: r) j.b j.be = j.a := by rw [nextS, if_neg hA, if_pos hB]
        have k2 : nextE (j :: r) j.b j.be = j.ae := by rw [nextE, if_neg hA, if_pos hB]
        have yA : jA j j.a j.ae = true := (jA_iff _ _ _).2 ⟨rfl, rfl⟩
        rw [k1, k2]
        refine ⟨?_, ?_, ?_, hne, e1⟩
        · rw [nextOk, yA]; simp
        · rw [nextS, if_pos yA]
        · rw [nextE, if_pos yA]
      · have hn : nextOk r s e = true := by
          rw [nextOk, Bool.or_eq_true, Bool.or_eq_true] at h
          rcases h with (h | h) | h
          · exact absurd h hA
          · exact absurd h hB
          · exact h
        have k1 : nextS (j :: r) s e = nextS r s e := by rw [nextS, if_neg hA, if_neg hB]
        have k2 : nextE (j :: r) s e = nextE r s e := by rw [nextE, if_neg hA, if_neg hB]
        obtain ⟨i1, i2, i3, i4, i5⟩ := next_back h4 hn
        rw [k1, k2]
        have nA : jA j (nextS r s e) (nextE r s e) ≠ true := fun h => by
          obtain ⟨a1, a2⟩ := (jA_iff _ _ _).1 h
          rw [a1, a2] at h2
          rw [h2] at i1
          cases i1
        have nB : jB j (nextS r s e) (nextE r s e) ≠ true := fun h => by
          obtain ⟨a1, a2⟩ := (jB_iff _ _ _).1 h
          rw [a1, a2] at h3
          rw [h3] at i1
          cases i1
        refine ⟨?_, ?_, ?_, i4, i5⟩
        · rw [nextOk, i1]; simp
        · rw [nextS, if_neg nA, if_neg nB]; exact i2
        · rw [nextE, if_neg nA, if_neg nB]; exact i3

/-- a joint of the document's check -/
def rjoB (l : List Sec) (js : List Jo) (j : Jo) : Bool := joOkB l j && (decide (countM js j.a j.ae ≤ 1) && decide (countM js j.b j.be ≤ 1))
theorem joints_ref {l : List Sec} : ∀ (js : List Jo), jointsB l js = true ↔ ∀ j ∈ js, rjoB l js j = true
  | [] => by simp [jointsB]
  | j :: r => by
    have ih := joints_ref (l := l) r
    rw [jointsB, Bool.and_eq_true, Bool.and_eq_true, Bool.and_eq_true, Bool.not_eq_true', Bool.not_eq_true', ih]
    constructor
    · rintro ⟨⟨h1, h2, h3⟩, h4⟩
      obtain ⟨hne, _, _⟩ := joOk_parts h1
      intro j' hj'
      rcases List.mem_cons.1 hj' with rfl | hr
      · unfold rjoB
        have c1 := (count_next r j'.a j'.ae).2 h2
        have c2 := (count_next r j'.b j'.be).2 h3
        have n1 : jB j' j'.a j'.ae ≠ true := fun h => hne ((jB_iff _ _ _).1 h).1.symm
        have n2 : jA j' j'.b j'.be ≠ true := fun h => hne ((jA_iff _ _ _).1 h).1
        rw [h1, countM, countM, c1, c2, if_neg n1, if_neg n2]
        simp
        constructor <;> split <;> omega
      · have h5 := h4 j' hr
        unfold rjoB at h5 ⊢
        rw [Bool.and_eq_true, Bool.and_eq_true, decide_eq_true_eq, decide_eq_true_eq] at h5 ⊢
        obtain ⟨k1, k2, k3⟩ := h5
        have m1 : jA j j'.a j'.ae ≠ true := fun h => by
          obtain ⟨a1, a2⟩ := (jA_iff _ _ _).1 h
          have : nextOk r j.a j.ae = true := next_mem.2 ⟨j', hr, .inl ((jA_iff _ _ _).2 ⟨a1.symm, a2.symm⟩)⟩
          rw [h2] at this; cases this
        have m2 : jB j j'.a j'.ae ≠ true := fun h => by
          obtain ⟨a1, a2⟩ := (jB_iff _ _ _).1 h
          have : nextOk r j.b j.be = true := next_mem.2 ⟨j', hr, .inl ((jA_iff _ _ _).2 ⟨a1.symm, a2.symm⟩)⟩
          rw [h3] at this; cases this
        have m3 : jA j j'.b j'.be ≠ true := fun h => by
          obtain ⟨a1, a2⟩ := (jA_iff _ _ _).1 h
          have : nextOk r j.a j.ae = true := next_mem.2 ⟨j', hr, .inr ((jB_iff _ _ _).2 ⟨a1.symm, a2.symm⟩)⟩
          rw [h2] at this; cases this
        have m4 : jB j j'.b j'.be ≠ true := fun h => by
          obtain ⟨a1, a2⟩ := (jB_iff _ _ _).1 h
          have : nextOk r j.b j.be = true := next_mem.2 ⟨j', hr, .inr ((jB_iff _ _ _).2 ⟨a1.symm, a2.symm⟩)⟩
          rw [h3] at this; cases this
        rw [countM, countM, if_neg m1, if_neg m2, if_neg m3, if_neg m4]
        exact ⟨k1, by omega, by omega⟩
    · intro h
      have h0 := h j (by simp)
      unfold rjoB at h0
      rw [Bool.and_eq_true, Bool.and_eq_true, decide_eq_true_eq, decide_eq_true_eq] at h0
      obtain ⟨k1, k2, k3⟩ := h0
      have y1 : jA j j.a j.ae = true := (jA_iff _ _ _).2 ⟨rfl, rfl⟩
      have y2 : jB j j.b j.be = true := (jB_iff _ _ _).2 ⟨rfl, rfl⟩
      rw [countM, if_pos y1] at k2
      rw [countM, if_pos y2] at k3
      refine ⟨⟨k1, (count_next _ _ _).1 (by omega), (count_next _ _ _).1 (by omega)⟩, fun j' hr => ?_⟩
      have h5 := h j' (by simp [hr])
      unfold rjoB at h5 ⊢
      rw [Bool.and_eq_true, Bool.and_eq_true, decide_eq_true_eq, decide_eq_true_eq] at h5 ⊢
      rw [countM, countM] at h5
      exact ⟨h5.1, by omega, by omega⟩

/-- a section of the document's check: the one at i, the lines of those ahead of it -/
def lineIn (ln : Int) : List Sec → Bool
  | [] => false
  | s :: r => (s.line == ln) || lineIn ln r
theorem lineIn_iff (ln : Int) : ∀ (l : List Sec), lineIn ln l = true ↔ ∃ s ∈ l, s.line = ln
  | [] => by simp [lineIn]
  | s :: r => by
    rw [lineIn, Bool.or_eq_true, lineIn_iff ln r]
    simp
def rsecB (js : List Jo) (i : Nat) (ahead : List Sec) (s : Sec) : Bool := secOkB s && ((s.line == 0) || ((s.kind == 0) && (countM js i 1 == 0) && !lineIn s.line ahead))
def rsecsB (js : List Jo) : Nat → List Sec → List Sec → Bool
  | _, _, [] => true
  | i, ahead, s :: r => rsecB js i ahead s && rsecsB js (i + 1) (ahead ++ [s]) r

theorem count_zero (js : List Jo) (s e : Int) : (countM js s e == 0) = !nextOk js s e := by
  have h := count_next js s e
  cases hn : nextOk js s e
  · rw [hn] at h
    simp [h.2 rfl]
  · rw [hn] at h
    have : countM js s e ≠ 0 := fun e => by have := h.1 e; cases this
    simp [this]

/-- The two ways of checking lines come to the same. -/
theorem lines_ref (js : List Jo) : ∀ (r : List Sec) (i : Nat) (tk : List Bool) (ahead : List Sec), tk.length = 4 → (∀ m : Nat, m < 4 → m ≠ 0 → seenAt tk m = lineIn (m : Nat) ahead) →
    (sectionsB r && linesB js i tk r) = rsecsB js i ahead r
  | [], _, _, _, _, _ => rfl
  | s :: r, i, tk, ahead, htk, hs => by
    rw [sectionsB, linesB, rsecsB, rsecB]
    cases hok : secOkB s
    · simp
    · obtain ⟨m, hm, hm4⟩ := sec_line hok
      rw [hm, Int.toNat_natCast, count_zero]
      by_cases h0 : m = 0
      · subst h0
        have ih := lines_ref js r (i + 1) tk (ahead ++ [s]) htk (fun n hn hn0 => by
          rw [hs n hn hn0, Bool.eq_iff_iff, lineIn_iff, lineIn_iff]
          constructor
          · rintro ⟨x, hx, e⟩
            exact ⟨x, by simp [hx], e⟩
          · rintro ⟨x, hx, e⟩
            rcases List.mem_append.1 hx with hx | hx
            · exact ⟨x, hx, e⟩
            · have : x = s := by simpa using hx
              subst this
              omega)
        rw [← ih]
        simp
      · rw [if_neg (by omega), hs m hm4 h0]
        have hml : ((m : Int) == 0) = false := by simp; omega
        rw [hml]
        have ih := lines_ref js r (i + 1) (tk.set m true) (ahead ++ [s]) (by rw [List.length_set]; exact htk) (fun n hn hn0 => by
          rw [seenAt_set _ _ _ (by omega), hs n hn hn0, Bool.eq_iff_iff, Bool.or_eq_true, lineIn_iff, lineIn_iff, decide_eq_true_eq]
          constructor
          · rintro (rfl | ⟨x, hx, e⟩)
            · exact ⟨s, by simp, hm⟩
            · exact ⟨x, by simp [hx], e⟩
          · rintro ⟨x, hx, e⟩
            rcases List.mem_append.1 hx with hx | hx
            · exact .inr ⟨x, hx, e⟩
            · have : x = s := by simpa using hx
              subst this
              exact .inl (by omega))
        rw [← ih]
        cases lineIn (m : Nat) ahead <;> cases (s.kind == 0) <;> cases nextOk js i 1 <;> cases sectionsB r <;> simp

theorem all_iff {α : Type} {f : α → Bool} : ∀ {l : List α}, l.all f = true ↔ ∀ x ∈ l, f x = true := by
  intro l
  exact List.all_eq_true
/-- The document's check. -/
def rcheckB (l : List Sec) (js : List Jo) : Bool := sizesB l js && (rsecsB js 0 [] l && js.all (rjoB l js))
theorem check_ref (l : List Sec) (js : List Jo) : checkB l js = rcheckB l js := by
  unfold checkB rcheckB
  have h1 := lines_ref js l 0 tk0 [] rfl (fun m hm h0 => by
    match m, hm, h0 with
    | 1, _, _ => rfl
    | 2, _, _ => rfl
    | 3, _, _ => rfl)
  rw [← h1]
  have h2 : jointsB l js = js.all (rjoB l js) := by rw [Bool.eq_iff_iff, joints_ref, List.all_eq_true]
  rw [← h2]
  cases sectionsB l <;> cases jointsB l js <;> cases linesB js 0 tk0 l <;> simp
end Go.Proofs.Ytgommmaipifpaaa

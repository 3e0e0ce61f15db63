import Derived.Test.YtbjbkaphigolnaaGreatDoorMas
import Derived.Deep.CutRange
import Derived.Deep.RegionHeld3
import Derived.Deep.LoopGhost
import Derived.Test.YtbjbkaphigolnaaGreatDoorCards
import Derived.Test.YtbjbkaphigolnaaGreatDoorTie
/- ConfJoints: in which order a right station's joints are told, and from which of its ends, says nothing (plain mathematics). -/
namespace Go.Proofs.YtbjbkaphigolnaaGreatDoor

/-- a joint, told from its other end -/
def jflip (j : Jo) : Jo := ⟨j.b, j.be, j.a, j.ae⟩
def sumJ (f : Jo → Nat) : List Jo → Nat
  | [] => 0
  | j :: r => f j + sumJ f r
theorem sumJ_set (f : Jo → Nat) (x : Jo) : ∀ (l : List Jo) (i : Nat) (h : i < l.length), sumJ f (l.set i x) + f l[i] = sumJ f l + f x
  | j :: r, 0, _ => by
    simp only [List.set_cons_zero, sumJ, List.getElem_cons_zero]
    omega
  | j :: r, i + 1, h => by
    have := sumJ_set f x r i (by simpa using h)
    simp only [List.set_cons_succ, sumJ, List.getElem_cons_succ]
    omega
/-- two joints change places, and the one that came to the first place is told from its other end -/
def turnJ (l : List Jo) (a b : Nat) : List Jo := ((l.set a (l.getD b default)).set b (l.getD a default)).set a (jflip (l.getD b default))
theorem turnJ_length (l : List Jo) (a b : Nat) : (turnJ l a b).length = l.length := by
  unfold turnJ
  rw [List.length_set, List.length_set, List.length_set]
theorem getD_at {l : List Jo} {a : Nat} (h : a < l.length) : l.getD a default = l[a] := by
  rw [List.getD_eq_getElem?_getD, List.getElem?_eq_getElem h]
  rfl
theorem sumJ_turn (f : Jo → Nat) (hf : ∀ j, f (jflip j) = f j) {l : List Jo} {a b : Nat} (ha : a < l.length) (hb : b < l.length) : sumJ f (turnJ l a b) = sumJ f l := by
  unfold turnJ
  rw [getD_at ha, getD_at hb]
  have h1 := sumJ_set f l[b] l a ha
  have h2 := sumJ_set f l[a] (l.set a l[b]) b (by rw [List.length_set]; exact hb)
  have h3 := sumJ_set f (jflip l[b]) ((l.set a l[b]).set b l[a]) a (by rw [List.length_set, List.length_set]; exact ha)
  rw [hf] at h3
  by_cases e : a = b
  · subst e
    rw [List.getElem_set_self] at h2 h3
    omega
  · rw [List.getElem_set_ne e] at h2
    rw [List.getElem_set_ne (Ne.symm e), List.getElem_set_self] at h3
    omega

/-- of a test: 1, where it holds -/
def one (b : Bool) : Nat := if b = true then 1 else 0
theorem sumJ_zero (p : Jo → Bool) : ∀ l : List Jo, sumJ (fun j => one (p j)) l = 0 ↔ ∀ j ∈ l, p j = false
  | [] => by simp [sumJ]
  | j :: r => by
    have ih := sumJ_zero p r
    simp only [sumJ, List.mem_cons, forall_eq_or_imp, one] at ih ⊢
    cases p j <;> simp [ih]
theorem sumJ_some (p : Jo → Bool) (l : List Jo) : sumJ (fun j => one (p j)) l ≠ 0 ↔ ∃ j ∈ l, p j = true := by
  rw [ne_eq, sumJ_zero]
  simp
def cJ (s e : Int) (j : Jo) : Nat := one (jA j s e) + one (jB j s e)
theorem count_sum (s e : Int) : ∀ l : List Jo, countM l s e = sumJ (cJ s e) l
  | [] => rfl
  | j :: r => by
    rw [countM, sumJ, count_sum s e r]
    rfl
theorem cJ_flip (s e : Int) (j : Jo) : cJ s e (jflip j) = cJ s e j := by
  unfold cJ jflip jA jB
  dsimp only
  omega
/-- this joint leads from the one end to the other -/
def linkB (s e t f : Int) (j : Jo) : Bool := (jA j s e && (decide (j.b = t) && decide (j.be = f))) || (jB j s e && (decide (j.a = t) && decide (j.ae = f)))
theorem link_flip (s e t f : Int) (j : Jo) : linkB s e t f (jflip j) = linkB s e t f j := by
  unfold linkB jflip jA jB
  dsimp only
  rw [Bool.or_comm]
theorem ok_flip (l : List Sec) (j : Jo) : joOkB l (jflip j) = joOkB l j := by
  unfold joOkB jflip
  dsimp only
  have e : (j.b == j.a) = (j.a == j.b) := by
    by_cases e : j.a = j.b
    · rw [e]
    · have e2 : ¬ j.b = j.a := fun h => e h.symm
      rw [beq_false_of_ne e2, beq_false_of_ne e]
  rw [e]
  cases (j.a == j.b) <;> cases isEndB l j.a j.ae <;> cases isEndB l j.b j.be <;> rfl

theorem joints_iff (l : List Sec) : ∀ js : List Jo, jointsB l js = true ↔ (∀ j ∈ js, joOkB l j = true) ∧ ∀ s e, countM js s e ≤ 1
  | [] => by simp [jointsB, countM]
  | j :: r => by
    have ih := joints_iff l r
    rw [jointsB, Bool.and_eq_true, Bool.and_eq_true, Bool.and_eq_true, Bool.not_eq_true', Bool.not_eq_true', ih]
    constructor
    · rintro ⟨⟨h1, h2, h3⟩, h4, h5⟩
      obtain ⟨hne, _, _⟩ := joOk_parts h1
      refine ⟨fun x hx => ?_, fun s e => ?_⟩
      · rcases List.mem_cons.1 hx with rfl | hx
        · exact h1
        · exact h4 x hx
      · rw [countM]
        have := h5 s e
        by_cases hA : jA j s e = true
        · obtain ⟨rfl, rfl⟩ := (jA_iff _ _ _).1 hA
          have hB : ¬ jB j j.a j.ae = true := fun h => hne ((jB_iff _ _ _).1 h).1.symm
          rw [if_pos hA, if_neg hB, (count_next _ _ _).2 h2]
          omega
        · by_cases hB : jB j s e = true
          · obtain ⟨rfl, rfl⟩ := (jB_iff _ _ _).1 hB
            rw [if_neg hA, if_pos hB, (count_next _ _ _).2 h3]
            omega
          · rw [if_neg hA, if_neg hB]
            omega
    · rintro ⟨h1, h2⟩
      have hj := h1 j List.mem_cons_self
      refine ⟨⟨hj, ?_, ?_⟩, fun x hx => h1 x (List.mem_cons_of_mem _ hx), fun s e => ?_⟩
      · have := h2 j.a j.ae
        rw [countM, if_pos ((jA_iff _ _ _).2 ⟨rfl, rfl⟩)] at this
        exact (count_next _ _ _).1 (by omega)
      · have := h2 j.b j.be
        rw [countM, if_pos ((jB_iff _ _ _).2 ⟨rfl, rfl⟩)] at this
        exact (count_next _ _ _).1 (by omega)
      · have := h2 s e
        rw [countM] at this
        omega
theorem next_nil : ∀ (js : List Jo) (s e : Int), nextOk js s e = false → nextS js s e = 0 ∧ nextE js s e = 0
  | [], _, _, _ => ⟨rfl, rfl⟩
  | j :: r, s, e, h => by
    rw [nextOk, Bool.or_eq_false_iff, Bool.or_eq_false_iff] at h
    rw [nextS, nextE, h.1.1, h.1.2]
    simpa using next_nil r s e h.2
theorem next_link : ∀ {js : List Jo} {s e : Int}, nextOk js s e = true → ∃ j ∈ js, linkB s e (nextS js s e) (nextE js s e) j = true
  | [], _, _, h => by cases h
  | j :: r, s, e, h => by
    by_cases hA : jA j s e = true
    · refine ⟨j, List.mem_cons_self, ?_⟩
      rw [nextS, nextE, if_pos hA, if_pos hA]
      unfold linkB
      rw [hA]
      simp
    · by_cases hB : jB j s e = true
      · refine ⟨j, List.mem_cons_self, ?_⟩
        rw [nextS, nextE, if_neg hA, if_neg hA, if_pos hB, if_pos hB]
        unfold linkB
        rw [hB]
        simp
      · have hn : nextOk r s e = true := by
          rw [nextOk, Bool.or_eq_true, Bool.or_eq_true] at h
          rcases h with (h | h) | h
          · exact absurd h hA
          · exact absurd h hB
          · exact h
        obtain ⟨x, hx, hl⟩ := next_link hn
        refine ⟨x, List.mem_cons_of_mem _ hx, ?_⟩
        rw [nextS, nextE, if_neg hA, if_neg hA, if_neg hB, if_neg hB]
        exact hl
theorem link_next {l : List Sec} : ∀ {js : List Jo}, jointsB l js = true → ∀ {s e t f : Int} {j : Jo}, j ∈ js → linkB s e t f j = true → nextOk js s e = true ∧ nextS js s e = t ∧ nextE js s e = f
  | x :: r, hr, s, e, t, f, j, hj, hl => by
    rw [jointsB, Bool.and_eq_true, Bool.and_eq_true, Bool.and_eq_true, Bool.not_eq_true', Bool.not_eq_true'] at hr
    obtain ⟨⟨h1, h2, h3⟩, h4⟩ := hr
    obtain ⟨hne, _, _⟩ := joOk_parts h1
    rcases List.mem_cons.1 hj with rfl | hj
    · unfold linkB at hl
      simp only [Bool.or_eq_true, Bool.and_eq_true, decide_eq_true_eq] at hl
      rcases hl with ⟨hA, rfl, rfl⟩ | ⟨hB, rfl, rfl⟩
      · rw [nextOk, nextS, nextE, if_pos hA, if_pos hA, hA]
        simp
      · have hA : ¬ jA j s e = true := fun hA => hne (((jA_iff _ _ _).1 hA).1.trans ((jB_iff _ _ _).1 hB).1.symm)
        rw [nextOk, nextS, nextE, if_neg hA, if_neg hA, if_pos hB, if_pos hB, hB]
        simp
    · obtain ⟨k1, k2, k3⟩ := link_next h4 hj hl
      have hA : ¬ jA x s e = true := fun hA => by
        obtain ⟨rfl, rfl⟩ := (jA_iff _ _ _).1 hA
        rw [h2] at k1
        cases k1
      have hB : ¬ jB x s e = true := fun hB => by
        obtain ⟨rfl, rfl⟩ := (jB_iff _ _ _).1 hB
        rw [h3] at k1
        cases k1
      rw [nextOk, nextS, nextE, if_neg hA, if_neg hA, if_neg hB, if_neg hB, k1, k2, k3]
      simp

/-- two tellings of the same joints -/
structure SameJ (js ks : List Jo) : Prop where
  ok : ∀ s e, nextOk ks s e = nextOk js s e
  sec : ∀ s e, nextS ks s e = nextS js s e
  fin : ∀ s e, nextE ks s e = nextE js s e
theorem turn_right {l : List Sec} {js : List Jo} {a b : Nat} (h : jointsB l js = true) (ha : a < js.length) (hb : b < js.length) : jointsB l (turnJ js a b) = true := by
  rw [joints_iff] at h ⊢
  refine ⟨?_, fun s e => ?_⟩
  · have h0 : sumJ (fun j => one (!joOkB l j)) (turnJ js a b) = 0 := by
      rw [sumJ_turn _ (fun j => by rw [ok_flip]) ha hb, sumJ_zero]
      intro j hj
      rw [h.1 j hj]
      rfl
    intro j hj
    have := (sumJ_zero _ _).1 h0 j hj
    simpa using this
  · rw [count_sum, sumJ_turn _ (cJ_flip s e) ha hb, ← count_sum]
    exact h.2 s e
theorem turn_same {l : List Sec} {js : List Jo} {a b : Nat} (h : jointsB l js = true) (ha : a < js.length) (hb : b < js.length) : SameJ js (turnJ js a b) := by
  have ht := turn_right h ha hb
  have hok : ∀ s e, nextOk (turnJ js a b) s e = nextOk js s e := fun s e => by
    have hc : countM (turnJ js a b) s e = countM js s e := by rw [count_sum, sumJ_turn _ (cJ_flip s e) ha hb, ← count_sum]
    cases hn : nextOk js s e with
    | false => exact (count_next _ _ _).1 (hc.trans ((count_next _ _ _).2 hn))
    | true =>
      cases hm : nextOk (turnJ js a b) s e with
      | true => rfl
      | false =>
        have := (count_next _ _ _).1 (hc.symm.trans ((count_next _ _ _).2 hm))
        rw [hn] at this
        cases this
  have hse : ∀ s e, nextS (turnJ js a b) s e = nextS js s e ∧ nextE (turnJ js a b) s e = nextE js s e := fun s e => by
    cases hn : nextOk js s e with
    | false =>
      have h1 := next_nil _ _ _ hn
      have h2 := next_nil (turnJ js a b) s e ((hok s e).trans hn)
      exact ⟨h2.1.trans h1.1.symm, h2.2.trans h1.2.symm⟩
    | true =>
      have hl := next_link hn
      have h0 := (sumJ_some (linkB s e (nextS js s e) (nextE js s e)) js).2 hl
      rw [← sumJ_turn _ (fun j => by rw [link_flip]) ha hb] at h0
      obtain ⟨j, hj, hjl⟩ := (sumJ_some _ _).1 h0
      obtain ⟨_, k2, k3⟩ := link_next ht hj hjl
      exact ⟨k2, k3⟩
  exact ⟨hok, fun s e => (hse s e).1, fun s e => (hse s e).2⟩

section
variable {js ks : List Jo}
theorem SameJ.lines (h : SameJ js ks) : ∀ (l : List Sec) (i : Nat) (t : List Bool), linesB ks i t l = linesB js i t l
  | [], _, _ => rfl
  | s :: r, i, t => by
    rw [linesB, linesB, h.lines r, h.lines r, h.ok]
theorem SameJ.sigs (h : SameJ js ks) : ∀ l : List Sg, sigsB ks l = sigsB js l
  | [] => rfl
  | s :: r => by rw [sigsB, sigsB, h.ok, h.sigs r]
theorem SameJ.hangs (h : SameJ js ks) (l : List Sec) : ∀ (p : List St) (ok : Bool) (s i : Int), hangsB l ks ok s i p = hangsB l js ok s i p
  | [], _, _, _ => rfl
  | x :: r, ok, s, i => by rw [hangsB, hangsB, h.ok, h.sec, h.fin, h.hangs l r]
theorem SameJ.flankE (h : SameJ js ks) (l : List Sec) (x : St) (e : Int) (q : List Bool × List Nd) : flankE l ks x e q = flankE l js x e q := by
  unfold Go.Proofs.YtbjbkaphigolnaaGreatDoor.flankE guardOk guardN
  rw [h.ok, h.sec, h.fin]
theorem SameJ.flankI (h : SameJ js ks) (l : List Sec) (x : St) : ∀ (es : List Int) (q : List Bool × List Nd), flankI l ks x es q = flankI l js x es q
  | [], _ => rfl
  | e :: r, q => by
    unfold Go.Proofs.YtbjbkaphigolnaaGreatDoor.flankI
    rw [h.flankE, h.flankI l x r]
theorem SameJ.flankO (h : SameJ js ks) (l : List Sec) : ∀ (p : List St) (q : List Bool × List Nd), flankO l ks p q = flankO l js p q
  | [], _ => rfl
  | x :: r, q => by
    unfold Go.Proofs.YtbjbkaphigolnaaGreatDoor.flankO
    rw [h.flankI, h.flankO l r]
theorem SameJ.over (h : SameJ js ks) (l : List Sec) (sg : List Sg) (r : Rt) : overM l ks sg r = overM l js sg r := by
  unfold overM overOk
  simp only [h.ok, h.sec]
theorem SameJ.err (h : SameJ js ks) (l : List Sec) (sg : List Sg) (r : Rt) : errR l ks sg r = errR l js sg r := by
  unfold errR routeB endB flankM
  rw [h.over, h.flankO]
  simp only [h.ok, h.sec, h.fin, h.hangs]
theorem SameJ.routes (h : SameJ js ks) (l : List Sec) (sg : List Sg) : ∀ rs : List Rt, routesE l ks sg rs = routesE l js sg rs
  | [] => rfl
  | r :: rs => by rw [routesE_cons, routesE_cons, h.err, h.routes l sg rs]
end
/-- the station with its joints told otherwise is right -/
theorem turn_check {c : Cf} (h : checkE c = 0) {a b : Nat} (ha : a < c.jos.length) (hb : b < c.jos.length) : checkE { c with jos := turnJ c.jos a b } = 0 := by
  obtain ⟨h1, h2, h3, h4, h5, h6⟩ := check_parts h
  unfold checkB at h1
  simp only [Bool.and_eq_true] at h1
  obtain ⟨k1, k2, k3, k4⟩ := h1
  have hs := turn_same k3 ha hb
  have hc : checkB c.secs (turnJ c.jos a b) = true := by
    unfold checkB
    rw [hs.lines, k2, turn_right k3 ha hb, k4]
    unfold sizesB at k1 ⊢
    rw [turnJ_length, k1]
    rfl
  unfold checkE
  dsimp only
  rw [hc, hs.sigs, h2, h3, hs.routes, h5, h6, if_neg (by decide), if_neg (by decide), if_neg (by decide), if_neg (by simpa using h4), if_neg (by decide), if_neg (by decide)]
end Go.Proofs.YtbjbkaphigolnaaGreatDoor
/- A right route is short: its flank, its overlap, its path. -/
namespace Go.Proofs.YtbjbkaphigolnaaGreatDoor
open Go.RowKit

theorem flankE_len (l : List Sec) (js : List Jo) (x : St) (e : Int) (q : List Bool × List Nd) : (flankE l js x e q).2.length ≤ q.2.length + 1 := by
  unfold flankE
  split
  · omega
  · split
    · rw [List.length_append]; simp
    · omega
theorem flankI_len (l : List Sec) (js : List Jo) (x : St) : ∀ (es : List Int) (q : List Bool × List Nd), (flankI l js x es q).2.length ≤ q.2.length + es.length
  | [], q => by simp [flankI]
  | e :: r, q => by
    have a := flankI_len l js x r (flankE l js x e q)
    have b := flankE_len l js x e q
    rw [flankI, List.length_cons]
    omega
theorem endsL_len (l : List Sec) (s : Int) : (endsL (endsOf l s)).length ≤ 4 := by
  unfold endsL endsOf
  rw [List.length_map, List.length_range]
  split
  · have := ends_bd (kindOf l s.toNat)
    omega
  · simp
theorem flankO_len (l : List Sec) (js : List Jo) : ∀ (p : List St) (q : List Bool × List Nd), (flankO l js p q).2.length ≤ q.2.length + 4 * p.length
  | [], q => by simp [flankO]
  | x :: r, q => by
    have a := flankO_len l js r (flankI l js x (endsL (endsOf l x.sec)) q)
    have b := flankI_len l js x (endsL (endsOf l x.sec)) q
    have c := endsL_len l x.sec
    rw [flankO, List.length_cons]
    omega
theorem right_short {l : List Sec} {js : List Jo} {sg : List Sg} {r : Rt} (h : errR l js sg r = 0) : r.flank.length ≤ 32 ∧ r.over.length ≤ 1 ∧ r.path.length ≤ 8 := by
  obtain ⟨h1, h2, h3⟩ := errR_parts h
  have hp : r.path.length ≤ 8 := by
    unfold routeB at h1
    simp only [Bool.and_eq_true, decide_eq_true_eq] at h1
    exact h1.2.2.2.1
  refine ⟨?_, ?_, hp⟩
  · rw [h2]
    unfold flankM
    have := flankO_len l js r.path (barM l.length (apM sg r.entry) r.path, [])
    simp only [List.length_nil] at this
    omega
  · rw [h3]
    unfold overM
    split <;> simp
end Go.Proofs.YtbjbkaphigolnaaGreatDoor
/- The walk of ConfJoints: in which order a right station's joints are told, and each of them from which of its ends, says nothing. -/
namespace Go.Proofs.YtbjbkaphigolnaaGreatDoor
open Go.RowKit

theorem cellsJ_one6 (l : List Jo) : ∀ u ∈ cellsJ l, u.oneCell' = true := by
  intro u hu
  obtain ⟨s, _, hs⟩ := List.mem_flatMap.1 hu
  simp at hs
  rcases hs with rfl | rfl | rfl | rfl <;> rfl
theorem cellsJ_set : ∀ (l : List Jo) (i : Nat) (x : Jo), i < l.length → ((((cellsJ l).set (i * 4) (.int .i64 x.a)).set (i * 4 + 1) (.int .i64 x.ae)).set (i * 4 + 2) (.int .i64 x.b)).set (i * 4 + 3) (.int .i64 x.be) = cellsJ (l.set i x)
  | y :: r, 0, x, _ => by
    have e : cellsJ (y :: r) = [.int .i64 y.a, .int .i64 y.ae, .int .i64 y.b, .int .i64 y.be] ++ cellsJ r := rfl
    rw [e]
    rfl
  | y :: r, i + 1, x, h => by
    have e : cellsJ (y :: r) = .int .i64 y.a :: .int .i64 y.ae :: .int .i64 y.b :: .int .i64 y.be :: cellsJ r := rfl
    have ih := cellsJ_set r i x (by simpa using h)
    have e1 : (i + 1) * 4 = i * 4 + 1 + 1 + 1 + 1 := by omega
    rw [e, e1]
    simp only [List.set_cons_succ]
    rw [show cellsJ (y :: r.set i x) = .int .i64 y.a :: .int .i64 y.ae :: .int .i64 y.b :: .int .i64 y.be :: cellsJ (r.set i x) from rfl, ← ih]
/-- a joint of a row of the call's own is written over -/
theorem jo_stored {w : World} {base g n c i : Nat} {l : List Jo} (h : w.ownsRow base 69 4 (.slice (some ⟨g, 0, none⟩) n c) n (cellsJ l)) (x : Jo) (hi : i < l.length) :
    ((((w.setCell ⟨g, i * 4, none⟩ (.int .i64 x.a)).setCell ⟨g, i * 4 + 1, none⟩ (.int .i64 x.ae)).setCell ⟨g, i * 4 + 2, none⟩ (.int .i64 x.b)).setCell ⟨g, i * 4 + 3, none⟩ (.int .i64 x.be)).ownsRow base 69 4 (.slice (some ⟨g, 0, none⟩) n c) n (cellsJ (l.set i x)) := by
  rw [← cellsJ_set l i x hi]
  exact ((((h.stored _ _).1.stored _ _).1.stored _ _).1.stored _ _).1
theorem jo_fr (w : World) (g i : Nat) (a b c d : Value) : Fr (fun k => k = g) w ((((w.setCell ⟨g, i * 4, none⟩ a).setCell ⟨g, i * 4 + 1, none⟩ b).setCell ⟨g, i * 4 + 2, none⟩ c).setCell ⟨g, i * 4 + 3, none⟩ d) :=
  ((((Fr.refl (fun k => k = g) w).setCell (p := ⟨g, i * 4, none⟩) (.inl rfl) _).setCell (p := ⟨g, i * 4 + 1, none⟩) (.inl rfl) _).setCell (p := ⟨g, i * 4 + 2, none⟩) (.inl rfl) _).setCell (p := ⟨g, i * 4 + 3, none⟩) (.inl rfl) _
theorem jo_cells {w : World} {base g n c i : Nat} {l : List Jo} (h : w.ownsRow base 69 4 (.slice (some ⟨g, 0, none⟩) n c) n (cellsJ l)) (hi : i < l.length) :
    w.cell? ⟨g, i * 4, none⟩ = some (.int .i64 l[i].a) ∧ w.cell? ⟨g, i * 4 + 1, none⟩ = some (.int .i64 l[i].ae) ∧ w.cell? ⟨g, i * 4 + 2, none⟩ = some (.int .i64 l[i].b) ∧ w.cell? ⟨g, i * 4 + 3, none⟩ = some (.int .i64 l[i].be) := by
  obtain ⟨b, o, e, c0, c1, c2, c3⟩ := rd_jo (wide_rd h) hi
  injection e with e
  injection e with e1 e2
  subst e1 e2
  simp only [Nat.zero_add] at c0 c1 c2 c3
  exact ⟨c0, c1, c2, c3⟩
/-- the station with its joints in other memory -/
def withJ (C : Cm) (g c : Nat) (js : List Jo) : Cm := { C with A2 := some ⟨g, 0, none⟩, c2 := c, js := js }

set_option maxRecDepth 100000 in
set_option maxHeartbeats 8000000 in
theorem joints_any6 (C : Cm) (i k : Int) (w : World) (h : C.Ok w) (hR : Rds w) (hP : Pow w) :
    Calls Tryz.prog 8 #[C.val, .int .i64 i, .int .i64 k] w fun e w' => e = .returned (.bool true) ∧ Fr (fun _ => False) w w' := by
  have f0 := (Fr.refl (fun _ => False) w).alloc (.cells C.arr 30)
  have is0 : Is (w.alloc (.cells C.arr 30)) w.heap.size 30 C.arr := Is.new w _ _
  have KL := lives_any (w.alloc (.cells C.arr 30)) (hR.fr f0) (hP.fr f0)
  have KC := fun W (f : Fr (fun _ => False) w W) => chk_any C W (h.fr f)
  unfold Cm.val at KC ⊢
  unfold Cm.arr at f0 is0 KL KC ⊢
  go_enter Tryz.func8, Tryz.ntmps8
  go_wp2_with fail
  refine KL.mono ?_
  clear KL
  rintro _ w1 ⟨rfl, f1⟩
  have F1 := fr_nil f0 f1
  have is1 := is0.fr f1 id
  clear f0 is0 f1
  obtain ⟨p0, p1, p2, p3, p4, p5, p6, p7, p8⟩ := conf_cells is1
  go_wp2_with fail
  refine (KC _ F1).mono ?_
  rintro _ w2 ⟨rfl, f2⟩
  have F2 := fr_nil F1 f2
  have is2 := is1.fr f2 id
  clear F1 is1 f2 p0 p1 p2 p3 p4 p5 p6 p7 p8 KC
  obtain ⟨p0, p1, p2, p3, p4, p5, p6, p7, p8⟩ := conf_cells is2
  by_cases hc : checkE C.cf = 0
  rotate_left
  · have hb : (checkE C.cf != 0) = true := by simpa using hc
    go_wp2_with fail
    go_ret
    exact ⟨rfl, F2⟩
  have hb : (checkE C.cf != 0) = false := by simpa using hc
  by_cases hl : C.js.length = 0
  · have hb2 : ((C.js.length : Int) == 0) = true := by simpa using hl
    go_wp2_with fail
    go_ret
    exact ⟨rfl, F2⟩
  have hb2 : ((C.js.length : Int) == 0) = false := by simpa using hl
  have hj24 : C.js.length ≤ 24 := by
    obtain ⟨h1, _⟩ := check_parts hc
    unfold checkB at h1
    simp only [Bool.and_eq_true] at h1
    exact (sizes_short h1.1).2.2
  obtain ⟨a, ha, hal⟩ := umod i C.js.length (by omega) (by omega)
  obtain ⟨b, hbb, hbl⟩ := umod k C.js.length (by omega) (by omega)
  have HA := Lib.hid ha
  have HB := Lib.hid hbb
  have HC := Lib.hid hc
  clear ha hbb hc
  go_upto_region 6 with (fail)
  clear p0 p1 p2 p3 p4 p5 p6 p7 p8
  have i7 := Is.new w2 30 #[.slice C.A1 C.l.length C.c1, .slice C.A2 C.js.length C.c2, .slice C.A3 C.sg.length C.c3, .slice C.A4 C.cr.length C.c4, .slice C.A5 C.rs.length C.c5, .int .i64 C.tm.age, .int .i64 C.tm.brake, .int .i64 C.tm.hold, .int .i64 C.tm.budget]
  have is3 := is2.alloc (.cells #[.slice C.A1 C.l.length C.c1, .slice C.A2 C.js.length C.c2, .slice C.A3 C.sg.length C.c3, .slice C.A4 C.cr.length C.c4, .slice C.A5 C.rs.length C.c5, .int .i64 C.tm.age, .int .i64 C.tm.brake, .int .i64 C.tm.hold, .int .i64 C.tm.budget] 30)
  have F3 := F2.alloc (.cells #[.slice C.A1 C.l.length C.c1, .slice C.A2 C.js.length C.c2, .slice C.A3 C.sg.length C.c3, .slice C.A4 C.cr.length C.c4, .slice C.A5 C.rs.length C.c5, .int .i64 C.tm.age, .int .i64 C.tm.brake, .int .i64 C.tm.hold, .int .i64 C.tm.budget] 30)
  have hzb := is2.lt
  have hz2 := F2.size
  have hz3 := i7.lt
  generalize w2.alloc _ = w3 at *
  generalize w2.heap.size = db at *
  generalize hzz : w.heap.size = zb at *
  have HZ := Lib.hid hzz
  clear hzz is2 F2
  have HH := Lib.hid h
  obtain ⟨i0, hi0, hz0, hz1, hz2'⟩ := info_parts Tryz.infoJo
  have c1 := (is3.alloc (.cells #[] 69)).cell 1
  simp only [List.getElem?_toArray, List.getElem?_cons_zero, List.getElem?_cons_succ] at c1
  have hrd := (h.fr F3).jos.fr ((Fr.refl (fun _ => False) w3).alloc (.cells #[] 69)) fun _ _ => id
  go_wp2_with (at_builtin; refine wpList_append_wide _ rfl _ _ 23 rfl w3.heap.size 69 i0 _ 4 32 Tryz.underlying23 hi0 hz0 hz1 hz2' rfl (by decide) _ 0 [] rfl (own_empty w3 69 4) C.A2 C.c2 C.js.length (cellsJ C.js) (cellsJ_length _) rfl hrd (cellsJ_one6 _) (by unfold maxLen; omega) (by omega) (by simp) ?_)
  intro v' w6 hown hg _
  have F36 : Fr (fun _ => False) w3 w6 := ((Fr.refl (fun _ => False) w3).alloc (.cells #[] 69)).grown hg fun k hk => .inr (by have e : w3.heap.size = k := Option.some.inj hk; omega)
  obtain ⟨A', c', rfl, hc1, hcm, hA', _⟩ := wide_form hown
  obtain ⟨g', rfl, hg'⟩ := hA' (by omega)
  have hgl : w3.heap.size ≤ g' := (World.ownsRow.lt hown g' rfl).1
  have i76 := i7.fr F36 id
  have is6 := is3.fr F36 id
  have F6 := fr_nil F3 F36
  have e1 := i76.cell 1
  have ez := i76.frozen 1
  simp only [List.getElem?_toArray, List.getElem?_cons_zero, List.getElem?_cons_succ] at e1
  have hz36 := F36.size
  clear hg F36 i7 is3 F3 c1 hrd hA' hi0 hz0 hz1 hz2' hR hP h
  go_upto_region 7 with (fail)
  have hdg : db ≠ g' := by omega
  have f67 : Fr (fun q => q = db) w6 (w6.setCell ⟨db, 1, none⟩ (.slice (some ⟨g', 0, none⟩) C.js.length c')) := (Fr.refl (fun q => q = db) w6).setCell (p := ⟨db, 1, none⟩) (.inl rfl) _
  have i77 := i76.set 1 (.slice (some ⟨g', 0, none⟩) C.js.length c')
  simp only [List.setIfInBounds_toArray, List.set_cons_succ, List.set_cons_zero] at i77
  have is7 := is6.fr f67 (by omega)
  have F7 : Fr (fun _ => False) w _ := F6.trans (f67.mono (S' := fun q => w.heap.size ≤ q) fun q _ e => by have := HZ.out; omega) fun q hq e => by omega
  have own7 := wide_fr hown f67 fun q hq e => hdg (by have e2 : g' = q := Option.some.inj hq; omega)
  generalize w6.setCell ⟨db, 1, none⟩ (.slice (some ⟨g', 0, none⟩) C.js.length c') = w7 at *
  clear f67 i76 is6 F6 hown e1 ez
  have d1 := i77.cell 1
  simp only [List.getElem?_toArray, List.getElem?_cons_zero, List.getElem?_cons_succ] at d1
  go_quiet (fail)
  go_upto_region 8 with (fail)
  simp only [HA.out, HB.out]
  clear HA HB d1
  replace i77 : Is (w7.drewN nq) db _ _ := i77
  replace is7 : Is (w7.drewN nq) zb _ _ := is7
  replace F7 := F7.drewN nq
  replace own7 : (w7.drewN nq).ownsRow _ _ _ _ _ _ := own7
  generalize w7.drewN nq = w8 at *
  go_cut [8, 9] from 45 (fun v8 v9 wx => v8 = .int .i64 (a : Int) ∧ v9 = .int .i64 (b : Int) ∧ wx.ownsRow w3.heap.size 69 4 (.slice (some ⟨g', 0, none⟩) C.js.length c') C.js.length (cellsJ ((C.js.set a (C.js.getD b default)).set b (C.js.getD a default))) ∧ Fr (fun q => q = g') w8 wx)
  case first =>
    have hgl8 : g' < w8.drew.heap.size := (World.ownsRow.lt own7 g' rfl).2
    have hdl8 : db < w8.drew.heap.size := i77.lt
    have d1 : w8.drew.cell? ⟨db, 1, none⟩ = some (.slice (some ⟨g', 0, none⟩) C.js.length c') := i77.cell 1
    obtain ⟨x0, x1, x2, x3⟩ := jo_cells own7 hal
    obtain ⟨y0, y1, y2, y3⟩ := jo_cells own7 hbl
    replace x0 : w8.drew.cell? _ = _ := x0
    replace x1 : w8.drew.cell? _ = _ := x1
    replace x2 : w8.drew.cell? _ = _ := x2
    replace x3 : w8.drew.cell? _ = _ := x3
    replace y0 : w8.drew.cell? _ = _ := y0
    replace y1 : w8.drew.cell? _ = _ := y1
    replace y2 : w8.drew.cell? _ = _ := y2
    replace y3 : w8.drew.cell? _ = _ := y3
    have zz : ∀ j, w8.drew.frozen? ⟨g', j, none⟩ = false := own7.frozenAt
    have HK : Hid (∀ W, Fr (fun q => q = g') w8.drew W → W.cell? ⟨db, 1, none⟩ = some (.slice (some ⟨g', 0, none⟩) C.js.length c')) := Lib.hid fun W f => (f.cell (p := ⟨db, 1, none⟩) hdl8 hdg).trans d1
    have own7d : w8.drew.ownsRow w3.heap.size 69 4 (.slice (some ⟨g', 0, none⟩) C.js.length c') C.js.length (cellsJ C.js) := own7
    have fd : Fr (fun q => q = g') w8 w8.drew := (Fr.refl _ w8).drew
    refine wp_region_held_drew (S := fun Wx => Wx.cell? ⟨db, 1, none⟩ = some (.slice (some ⟨g', 0, none⟩) C.js.length c')) (by kernel_rfl) d1 (fun hHeld => ?_)
    generalize w8.drew = wd at *
    refine wpAnyH_take (i := 0) (v := ?_) rfl (by kernel_rfl) (by kernel_rfl) (by kernel_rfl) (fun _ _ _ h => h) (Or.inl ⟨by rfl, ?_⟩) (by assumption) ?_
    rotate_left
    · intro Wx hSw
      try dsimp only at hSw
      go_simp
      try with_reducible rfl
    try simp only [Act.put]
    refine wpAnyH_take (i := 1) (v := ?_) rfl (by kernel_rfl) (by kernel_rfl) (by kernel_rfl) (fun _ _ _ h => h) (Or.inl ⟨by rfl, ?_⟩) (by assumption) ?_
    rotate_left
    · intro Wx hSw
      try dsimp only at hSw
      go_simp
      try with_reducible rfl
    try simp only [Act.put]
    refine wpAnyH_take (i := 2) (v := ?_) rfl (by kernel_rfl) (by kernel_rfl) (by kernel_rfl) (fun _ _ _ h => h) (Or.inl ⟨by rfl, ?_⟩) (by assumption) ?_
    rotate_left
    · intro Wx hSw
      try dsimp only at hSw
      go_simp
      try with_reducible rfl
    try simp only [Act.put]
    refine wpAnyH_take (i := 3) (v := ?_) rfl (by kernel_rfl) (by kernel_rfl) (by kernel_rfl) (fun _ _ _ h => h) (Or.inl ⟨by rfl, ?_⟩) (by assumption) ?_
    rotate_left
    · intro Wx hSw
      try dsimp only at hSw
      go_simp
      try with_reducible rfl
    try simp only [Act.put]
    refine wpAnyH_take (i := 4) (v := ?_) rfl (by kernel_rfl) (by kernel_rfl) (by kernel_rfl) (fun _ _ _ h => h) (Or.inl ⟨by rfl, ?_⟩) (by assumption) ?_
    rotate_left
    · intro Wx hSw
      try dsimp only at hSw
      go_simp
      try with_reducible rfl
    try simp only [Act.put]
    refine wpAnyH_take (i := 5) (v := ?_) rfl (by kernel_rfl) (by kernel_rfl) (by kernel_rfl) (fun _ _ _ h => h) (Or.inl ⟨by rfl, ?_⟩) (by assumption) ?_
    rotate_left
    · intro Wx hSw
      try dsimp only at hSw
      go_simp
      try with_reducible rfl
    try simp only [Act.put]
    refine wpAnyH_take (i := 6) (v := ?_) rfl (by kernel_rfl) (by kernel_rfl) (by kernel_rfl) (fun _ _ _ h => h) (Or.inl ⟨by rfl, ?_⟩) (by assumption) ?_
    rotate_left
    · intro Wx hSw
      try dsimp only at hSw
      go_simp
      try with_reducible rfl
    try simp only [Act.put]
    refine wpAnyH_take (i := 7) (v := ?_) rfl (by kernel_rfl) (by kernel_rfl) (by kernel_rfl) (fun _ _ _ h => h) (Or.inl ⟨by rfl, ?_⟩) (by assumption) ?_
    rotate_left
    · intro Wx hSw
      try dsimp only at hSw
      go_simp
      try with_reducible rfl
    try simp only [Act.put]
    refine wpAnyH_take (i := 8) (v := ?_) rfl (by kernel_rfl) (by kernel_rfl) (by kernel_rfl) (fun _ _ _ h => h) (Or.inl ⟨by rfl, ?_⟩) (by assumption) ?_
    rotate_left
    · intro Wx hSw
      try dsimp only at hSw
      go_simp
      try with_reducible rfl
    try simp only [Act.put]
    refine wpAnyH_take (i := 9) (v := ?_) rfl (by kernel_rfl) (by kernel_rfl) (by kernel_rfl) (fun _ _ _ h => h) (Or.inl ⟨by rfl, ?_⟩) (by assumption) ?_
    rotate_left
    · intro Wx hSw
      try dsimp only at hSw
      go_simp
      try with_reducible rfl
    try simp only [Act.put]
    refine wpAnyH_take (i := 11) (v := ?_) rfl (by kernel_rfl) (by kernel_rfl) (by kernel_rfl) (fun _ _ _ h => h) (Or.inl ⟨by rfl, ?_⟩) (by assumption) ?_
    rotate_left
    · intro Wx hSw
      try dsimp only at hSw
      go_simp
      try with_reducible rfl
    try simp only [Act.put]
    refine wpAnyH_take (i := 12) (v := ?_) rfl (by kernel_rfl) (by kernel_rfl) (by kernel_rfl) (fun _ _ _ h => h) (Or.inl ⟨by rfl, ?_⟩) (by assumption) ?_
    rotate_left
    · intro Wx hSw
      try dsimp only at hSw
      go_simp
      try with_reducible rfl
    try simp only [Act.put]
    refine wpAnyH_take (i := 13) (v := ?_) rfl (by kernel_rfl) (by kernel_rfl) (by kernel_rfl) (fun _ _ _ h => h) (Or.inl ⟨by rfl, ?_⟩) (by assumption) ?_
    rotate_left
    · intro Wx hSw
      try dsimp only at hSw
      go_simp
      try with_reducible rfl
    try simp only [Act.put]
    refine wpAnyH_take (i := 14) (v := ?_) rfl (by kernel_rfl) (by kernel_rfl) (by kernel_rfl) (fun _ _ _ h => h) (Or.inl ⟨by rfl, ?_⟩) (by assumption) ?_
    rotate_left
    · intro Wx hSw
      try dsimp only at hSw
      go_simp
      try with_reducible rfl
    try simp only [Act.put]
    refine wpAnyH_ready (rs := [10, 15]) (by kernel_rfl) (by simp) (AllReadyH.cons rfl (fun K hK => ?_) (AllReadyH.cons rfl (fun K hK => ?_) AllReadyH.nil))
    · go_simp
      refine hK.out _ _ d1 (fun hHeld => ?_)
      clear hK K
      refine wpAnyH_ready (rs := [15]) (by kernel_rfl) (by simp) (AllReadyH.cons rfl (fun K hK => ?_) AllReadyH.nil)
      go_simp
      refine hK.out _ _ d1 (fun hHeld => ?_)
      clear hK K
      refine wpAnyH_take (i := 16) (v := ?_) rfl (by kernel_rfl) (by kernel_rfl) (by kernel_rfl) (fun _ _ _ h => h) (Or.inl ⟨by rfl, ?_⟩) (by assumption) ?_
      rotate_left
      · intro Wx hSw
        try dsimp only at hSw
        go_simp
        try with_reducible rfl
      try simp only [Act.put]
      refine wpAnyH_ready (rs := [17]) (by kernel_rfl) (by simp) (AllReadyH.cons rfl (fun K hK => ?_) AllReadyH.nil)
      go_simp
      refine hK.out _ _ (HK.out _ (jo_fr _ _ _ _ _ _ _)) (fun hHeld => ?_)
      clear hK K
      have own9 := jo_stored own7d C.js[b] hal
      have f9 : Fr (fun q => q = g') wd _ := jo_fr wd g' a (.int .i64 C.js[b].a) (.int .i64 C.js[b].ae) (.int .i64 C.js[b].b) (.int .i64 C.js[b].be)
      generalize (((((wd).setCell ⟨g', a * 4, none⟩ (.int .i64 C.js[b].a)).setCell ⟨g', a * 4 + 1, none⟩ (.int .i64 C.js[b].ae)).setCell ⟨g', a * 4 + 2, none⟩ (.int .i64 C.js[b].b)).setCell ⟨g', a * 4 + 3, none⟩ (.int .i64 C.js[b].be)) = w9 at *
      refine wpAnyH_take (i := 18) (v := ?_) rfl (by kernel_rfl) (by kernel_rfl) (by kernel_rfl) (fun _ _ _ h => h) (Or.inl ⟨by rfl, ?_⟩) (by assumption) ?_
      rotate_left
      · intro Wx hSw
        try dsimp only at hSw
        go_simp
        try with_reducible rfl
      try simp only [Act.put]
      refine wpAnyH_ready (rs := [19]) (by kernel_rfl) (by simp) (AllReadyH.cons rfl (fun K hK => ?_) AllReadyH.nil)
      obtain ⟨v0, v1, v2, v3⟩ := jo_cells own9 (i := b) (by rw [List.length_set]; exact hbl)
      have vz : ∀ j, w9.frozen? ⟨g', j, none⟩ = false := own9.frozenAt
      go_simp
      have own10 := jo_stored own9 C.js[a] (i := b) (by rw [List.length_set]; exact hbl)
      have f10 : Fr (fun q => q = g') wd _ := f9.trans (jo_fr w9 g' b (.int .i64 C.js[a].a) (.int .i64 C.js[a].ae) (.int .i64 C.js[a].b) (.int .i64 C.js[a].be)) fun _ _ h => h
      refine hK.out _ _ (HK.out _ f10) (fun hHeld => ?_)
      clear hK K
      refine wpAnyH_done (by kernel_rfl) ?_ _
      go_wp2_with fail
      go_meet
      exact ⟨rfl, rfl, by rw [getD_at hal, getD_at hbl]; exact own10, fd.trans f10 fun _ _ h => h⟩
    · go_simp
      refine hK.out _ _ d1 (fun hHeld => ?_)
      clear hK K
      refine wpAnyH_ready (rs := [10]) (by kernel_rfl) (by simp) (AllReadyH.cons rfl (fun K hK => ?_) AllReadyH.nil)
      go_simp
      refine hK.out _ _ d1 (fun hHeld => ?_)
      clear hK K
      refine wpAnyH_take (i := 16) (v := ?_) rfl (by kernel_rfl) (by kernel_rfl) (by kernel_rfl) (fun _ _ _ h => h) (Or.inl ⟨by rfl, ?_⟩) (by assumption) ?_
      rotate_left
      · intro Wx hSw
        try dsimp only at hSw
        go_simp
        try with_reducible rfl
      try simp only [Act.put]
      refine wpAnyH_ready (rs := [17]) (by kernel_rfl) (by simp) (AllReadyH.cons rfl (fun K hK => ?_) AllReadyH.nil)
      go_simp
      refine hK.out _ _ (HK.out _ (jo_fr _ _ _ _ _ _ _)) (fun hHeld => ?_)
      clear hK K
      have own9 := jo_stored own7d C.js[b] hal
      have f9 : Fr (fun q => q = g') wd _ := jo_fr wd g' a (.int .i64 C.js[b].a) (.int .i64 C.js[b].ae) (.int .i64 C.js[b].b) (.int .i64 C.js[b].be)
      generalize (((((wd).setCell ⟨g', a * 4, none⟩ (.int .i64 C.js[b].a)).setCell ⟨g', a * 4 + 1, none⟩ (.int .i64 C.js[b].ae)).setCell ⟨g', a * 4 + 2, none⟩ (.int .i64 C.js[b].b)).setCell ⟨g', a * 4 + 3, none⟩ (.int .i64 C.js[b].be)) = w9 at *
      refine wpAnyH_take (i := 18) (v := ?_) rfl (by kernel_rfl) (by kernel_rfl) (by kernel_rfl) (fun _ _ _ h => h) (Or.inl ⟨by rfl, ?_⟩) (by assumption) ?_
      rotate_left
      · intro Wx hSw
        try dsimp only at hSw
        go_simp
        try with_reducible rfl
      try simp only [Act.put]
      refine wpAnyH_ready (rs := [19]) (by kernel_rfl) (by simp) (AllReadyH.cons rfl (fun K hK => ?_) AllReadyH.nil)
      obtain ⟨v0, v1, v2, v3⟩ := jo_cells own9 (i := b) (by rw [List.length_set]; exact hbl)
      have vz : ∀ j, w9.frozen? ⟨g', j, none⟩ = false := own9.frozenAt
      go_simp
      have own10 := jo_stored own9 C.js[a] (i := b) (by rw [List.length_set]; exact hbl)
      have f10 : Fr (fun q => q = g') wd _ := f9.trans (jo_fr w9 g' b (.int .i64 C.js[a].a) (.int .i64 C.js[a].ae) (.int .i64 C.js[a].b) (.int .i64 C.js[a].be)) fun _ _ h => h
      refine hK.out _ _ (HK.out _ f10) (fun hHeld => ?_)
      clear hK K
      refine wpAnyH_done (by kernel_rfl) ?_ _
      go_wp2_with fail
      go_meet
      exact ⟨rfl, rfl, by rw [getD_at hal, getD_at hbl]; exact own10, fd.trans f10 fun _ _ h => h⟩
  case rest =>
    obtain ⟨rfl, rfl, own9, f9⟩ := hcut
    have i79 := i77.fr f9 hdg
    have is9 := is7.fr f9 (by omega)
    have F9 : Fr (fun _ => False) w wc := F7.trans (f9.mono (S' := fun q => w.heap.size ≤ q) fun q _ e => by have := HZ.out; omega) fun q hq e => by omega
    clear own7 i77 is7 F7
    have hla : a < ((C.js.set a (C.js.getD b default)).set b (C.js.getD a default)).length := by rw [List.length_set, List.length_set]; exact hal
    have hat : ((C.js.set a (C.js.getD b default)).set b (C.js.getD a default))[a] = C.js.getD b default := by
      by_cases e : b = a
      · subst e; rw [List.getElem_set_self]
      · rw [List.getElem_set_ne e, List.getElem_set_self]
    obtain ⟨x0, x1, x2, x3⟩ := jo_cells own9 hla
    rw [hat] at x0 x1 x2 x3
    have HOW := Lib.hid own9
    generalize hy : C.js.getD b default = y at *
    have HY := Lib.hid hy
    clear hy
    have d1 := i79.cell 1
    simp only [List.getElem?_toArray, List.getElem?_cons_zero, List.getElem?_cons_succ] at d1
    have j1 : (0 : Int) ≤ (a : Int) := by omega
    have j2 : (a : Int) < (C.js.length : Int) := by omega
    have HAT := Lib.hid hat
    clear hat own9
    go_upto_region 10 with (fail)
    clear x0 x1 x2 x3 d1
    have fA := (Fr.refl (fun _ => False) wc).alloc (.cells #[.int .i64 y.a, .int .i64 y.ae, .int .i64 y.b, .int .i64 y.be] 69)
    have ix := Is.new wc 69 #[.int .i64 y.a, .int .i64 y.ae, .int .i64 y.b, .int .i64 y.be]
    have ownA := wide_fr HOW.out fA fun _ _ => id
    have i7A := i79.fr fA id
    have isA := is9.fr fA id
    have FA := fr_nil F9 fA
    have hgA : g' < wc.heap.size := (World.ownsRow.lt HOW.out g' rfl).2
    have hdA := i79.lt
    generalize wc.alloc _ = wA at *
    generalize wc.heap.size = xb at *
    clear HOW fA i79 is9 F9
    obtain ⟨x0, x1, x2, x3⟩ : wA.cell? ⟨xb, 0, none⟩ = some (.int .i64 y.a) ∧ wA.cell? ⟨xb, 1, none⟩ = some (.int .i64 y.ae) ∧ wA.cell? ⟨xb, 2, none⟩ = some (.int .i64 y.b) ∧ wA.cell? ⟨xb, 3, none⟩ = some (.int .i64 y.be) := ⟨ix.cell 0, ix.cell 1, ix.cell 2, ix.cell 3⟩
    obtain ⟨y0, y1, y2, y3⟩ := jo_cells ownA hla
    have vz : ∀ j, wA.frozen? ⟨g', j, none⟩ = false := ownA.frozenAt
    have d1 := i7A.cell 1
    simp only [List.getElem?_toArray, List.getElem?_cons_zero, List.getElem?_cons_succ] at d1
    rw [HAT.out] at y0 y1 y2 y3
    go_upto_region 11 with (fail)
    clear x0 x1 x2 x3 y0 y1 y2 y3 vz d1 j1 j2 ix
    have fB : Fr (fun q => q = g') wA _ := jo_fr wA g' a (.int .i64 y.b) (.int .i64 y.be) (.int .i64 y.a) (.int .i64 y.ae)
    have ownB := jo_stored ownA (jflip y) hla
    have hJ : Hid ((((C.js.set a y).set b (C.js.getD a default)).set a (jflip y)) = turnJ C.js a b) := Lib.hid (by rw [← HY.out]; rfl)
    rw [hJ.out] at ownB
    have i7B := i7A.fr fB hdg
    have isB := isA.fr fB (by omega)
    have FB : Fr (fun _ => False) w _ := FA.trans (fB.mono (S' := fun q => w.heap.size ≤ q) fun q _ e => by have := HZ.out; omega) fun q hq e => by omega
    unfold jflip at ownB
    dsimp only at ownB
    generalize ((((wA.setCell ⟨g', a * 4, none⟩ (.int .i64 y.b)).setCell ⟨g', a * 4 + 1, none⟩ (.int .i64 y.be)).setCell ⟨g', a * 4 + 2, none⟩ (.int .i64 y.a)).setCell ⟨g', a * 4 + 3, none⟩ (.int .i64 y.ae)) = wB at *
    clear fB ownA i7A isA FA HAT hla HY hJ f9 hgA hdA
    have hrdB := wide_rd ownB
    have hD : (withJ C g' c' (turnJ C.js a b)).Ok wB := by
      have h1 := HH.out.fr FB
      refine { h1 with jos := hrdB, l2 := ?_, b2 := ?_, k2 := ?_ }
      · show (turnJ C.js a b).length ≤ c'
        rw [turnJ_length]; exact hc1
      · show (turnJ C.js a b).length * 32 ≤ _
        rw [turnJ_length]; exact h1.b2
      · show c' ≤ _
        unfold maxLen at hcm; omega
    have hE : checkE (withJ C g' c' (turnJ C.js a b)).cf = 0 := turn_check HC.out hal hbl
    have HD := Lib.hid hD
    have HE := Lib.hid hE
    clear hD hE ownB hrdB
    have hb6 : ∀ r ∈ C.rs, (r.over.length + (r.path.length + r.flank.length)) * 8 ≤ 140737488355328 := fun r hr => by
      obtain ⟨_, _, _, _, h5, _⟩ := check_parts HC.out
      obtain ⟨q1, q2, q3⟩ : r.flank.length ≤ 32 ∧ r.over.length ≤ 1 ∧ r.path.length ≤ 8 := right_short (routesE_zero h5 _ (List.mem_map_of_mem hr))
      omega
    have hr12 : C.rs.length ≤ 12 := by
      obtain ⟨_, _, _, h4, _, _⟩ := check_parts HC.out
      unfold Cm.cf at h4
      rw [List.length_map] at h4
      exact h4
    have hbd := i7B.lt
    have hbz := isB.lt
    have HS : Hid (∀ W, Fr (fun _ => False) wB W → W.cell? ⟨zb, 0, none⟩ = some (.slice C.A1 C.l.length C.c1) ∧ W.cell? ⟨zb, 1, none⟩ = some (.slice C.A2 C.js.length C.c2) ∧ W.cell? ⟨zb, 2, none⟩ = some (.slice C.A3 C.sg.length C.c3) ∧ W.cell? ⟨zb, 3, none⟩ = some (.slice C.A4 C.cr.length C.c4) ∧ W.cell? ⟨zb, 4, none⟩ = some (.slice C.A5 C.rs.length C.c5) ∧ W.cell? ⟨zb, 5, none⟩ = some (.int .i64 C.tm.age) ∧ W.cell? ⟨zb, 6, none⟩ = some (.int .i64 C.tm.brake) ∧ W.cell? ⟨zb, 7, none⟩ = some (.int .i64 C.tm.hold) ∧ W.cell? ⟨zb, 8, none⟩ = some (.int .i64 C.tm.budget) ∧ W.cell? ⟨db, 0, none⟩ = some (.slice C.A1 C.l.length C.c1) ∧ W.cell? ⟨db, 1, none⟩ = some (.slice (some ⟨g', 0, none⟩) C.js.length c') ∧ W.cell? ⟨db, 2, none⟩ = some (.slice C.A3 C.sg.length C.c3) ∧ W.cell? ⟨db, 3, none⟩ = some (.slice C.A4 C.cr.length C.c4) ∧ W.cell? ⟨db, 4, none⟩ = some (.slice C.A5 C.rs.length C.c5) ∧ W.cell? ⟨db, 5, none⟩ = some (.int .i64 C.tm.age) ∧ W.cell? ⟨db, 6, none⟩ = some (.int .i64 C.tm.brake) ∧ W.cell? ⟨db, 7, none⟩ = some (.int .i64 C.tm.hold) ∧ W.cell? ⟨db, 8, none⟩ = some (.int .i64 C.tm.budget)) := Lib.hid fun W f => by
      have q := isB.fr f id
      have q' := i7B.fr f id
      exact ⟨q.cell 0, q.cell 1, q.cell 2, q.cell 3, q.cell 4, q.cell 5, q.cell 6, q.cell 7, q.cell 8, q'.cell 0, q'.cell 1, q'.cell 2, q'.cell 3, q'.cell 4, q'.cell 5, q'.cell 6, q'.cell 7, q'.cell 8⟩
    have KK : Hid (∀ (kk : Int) (W : World), Fr (fun _ => False) wB W → Calls Tryz.prog 18 #[C.val, .int .i64 kk] W (Nums W (locksR C kk)) ∧ Calls Tryz.prog 18 #[(withJ C g' c' (turnJ C.js a b)).val, .int .i64 kk] W (Nums W (locksR C kk)) ∧ (Calls Tryz.prog 14 #[C.val, .int .i64 kk] W fun e w' => e = .returned (.int .i64 (apR C kk)) ∧ Fr (fun _ => False) W w') ∧ (Calls Tryz.prog 14 #[(withJ C g' c' (turnJ C.js a b)).val, .int .i64 kk] W fun e w' => e = .returned (.int .i64 (apR C kk)) ∧ Fr (fun _ => False) W w') ∧ (Calls Tryz.prog 12 #[(withJ C g' c' (turnJ C.js a b)).val] W fun e w' => e = .returned (.int .i64 0) ∧ Fr (fun _ => False) W w')) := Lib.hid fun kk W f => by
      have hCw := HH.out.fr (fr_nil FB f)
      have hDw := HD.out.fr f
      refine ⟨locks_any C kk W hCw hb6, locks_any (withJ C g' c' (turnJ C.js a b)) kk W hDw hb6, appr_any C kk W hCw, appr_any (withJ C g' c' (turnJ C.js a b)) kk W hDw, ?_⟩
      have := chk_any (withJ C g' c' (turnJ C.js a b)) W hDw
      rw [HE.out] at this
      exact this
    have hv : (withJ C g' c' (turnJ C.js a b)).val = .agg #[.slice C.A1 C.l.length C.c1, .slice (some ⟨g', 0, none⟩) C.js.length c', .slice C.A3 C.sg.length C.c3, .slice C.A4 C.cr.length C.c4, .slice C.A5 C.rs.length C.c5, .int .i64 C.tm.age, .int .i64 C.tm.brake, .int .i64 C.tm.hold, .int .i64 C.tm.budget] := by
      unfold Cm.val Cm.arr withJ
      dsimp only
      rw [turnJ_length]
    rw [hv] at KK
    unfold Cm.val Cm.arr at KK
    have hLL : Hid (∀ kk, (locksR C kk).length ≤ 1000000) := Lib.hid fun kk => by
      unfold locksR
      split
      · rename_i hk
        obtain ⟨m, rfl, hm⟩ := isSecB_true hk
        rw [Int.toNat_natCast, rs_at hm]
        have q := locksM_short C.rs[m].rt
        have q2 : (rawLocks C.rs[m].rt).length = C.rs[m].over.length + (C.rs[m].path.length + C.rs[m].flank.length) := by
          unfold rawLocks
          simp [Ro.rt]
        obtain ⟨_, _, _, _, h5, _⟩ := check_parts HC.out
        obtain ⟨q3, q4, q5⟩ : C.rs[m].flank.length ≤ 32 ∧ C.rs[m].over.length ≤ 1 ∧ C.rs[m].path.length ≤ 8 := right_short (routesE_zero h5 _ (List.mem_map_of_mem (List.getElem_mem hm)))
        omega
      · simp
    have HFB := Lib.hid FB
    have p4 := isB.cell 4
    simp only [List.getElem?_toArray, List.getElem?_cons_zero, List.getElem?_cons_succ] at p4
    clear hv HD HE isB i7B FB hb6
    go_wp2_with fail
    clear p4
    go_loopg [11, 84] C.rs.length (fun gi v11 iv wr => ∃ kk : Nat, kk ≤ C.rs.length ∧ gi = C.rs.length - kk ∧ iv = .int .i64 (kk : Nat) ∧ Fr (fun _ => False) wB wr)
    case atStart => exact ⟨0, Nat.zero_le _, rfl, rfl, Fr.refl _ _⟩
    case round =>
      obtain ⟨kk, hkk, rfl, rfl, f⟩ := hrel
      by_cases hlt : kk < C.rs.length
      · have HLk := hLL.out (kk : Int)
        have KT := KK.out (kk : Int)
        generalize locksR C (kk : Int) = L at *
        generalize apR C (kk : Int) = ap at *
        have HKT := Lib.hid KT
        clear KT
        go_upto_region 14 with (fail)
        go_cut [11, 84, 103] from 84 to 104 (fun s11 s84 s103 wx => s84 = .int .i64 (kk : Nat) ∧ s103 = .bool false ∧ Fr (fun _ => False) wB wx)
        case first =>
          have HG0 := Lib.hid f.drew
          have s0 := HS.out _ HG0.out
          have HL9 : Hid (L.length ≤ 140737488355328) := Lib.hid (by omega)
          go_region_held3 (fun Wx => Wx.cell? ⟨zb, 0, none⟩ = some (.slice C.A1 C.l.length C.c1) ∧ Wx.cell? ⟨zb, 1, none⟩ = some (.slice C.A2 C.js.length C.c2) ∧ Wx.cell? ⟨zb, 2, none⟩ = some (.slice C.A3 C.sg.length C.c3) ∧ Wx.cell? ⟨zb, 3, none⟩ = some (.slice C.A4 C.cr.length C.c4) ∧ Wx.cell? ⟨zb, 4, none⟩ = some (.slice C.A5 C.rs.length C.c5) ∧ Wx.cell? ⟨zb, 5, none⟩ = some (.int .i64 C.tm.age) ∧ Wx.cell? ⟨zb, 6, none⟩ = some (.int .i64 C.tm.brake) ∧ Wx.cell? ⟨zb, 7, none⟩ = some (.int .i64 C.tm.hold) ∧ Wx.cell? ⟨zb, 8, none⟩ = some (.int .i64 C.tm.budget) ∧ Wx.cell? ⟨db, 0, none⟩ = some (.slice C.A1 C.l.length C.c1) ∧ Wx.cell? ⟨db, 1, none⟩ = some (.slice (some ⟨g', 0, none⟩) C.js.length c') ∧ Wx.cell? ⟨db, 2, none⟩ = some (.slice C.A3 C.sg.length C.c3) ∧ Wx.cell? ⟨db, 3, none⟩ = some (.slice C.A4 C.cr.length C.c4) ∧ Wx.cell? ⟨db, 4, none⟩ = some (.slice C.A5 C.rs.length C.c5) ∧ Wx.cell? ⟨db, 5, none⟩ = some (.int .i64 C.tm.age) ∧ Wx.cell? ⟨db, 6, none⟩ = some (.int .i64 C.tm.brake) ∧ Wx.cell? ⟨db, 7, none⟩ = some (.int .i64 C.tm.hold) ∧ Wx.cell? ⟨db, 8, none⟩ = some (.int .i64 C.tm.budget)) (first | with_reducible exact s0 | with_reducible exact s1 | with_reducible exact s2 | with_reducible exact s3 | with_reducible exact s4 | with_reducible exact s5) (first | (go_at_call 18; (with_reducible refine (HKT.out _ HG2.out).2.1.mono ?_); rintro e w22 ⟨A22, c22, rfl, o22, f22⟩; have HO22 := Lib.hid o22; have HO21b := Lib.hid (wide_fr HO21.out f22 fun _ _ => id); have HG3 := Lib.hid (fr_nil HG2.out f22); have s2 := HS.out _ HG3.out; clear o22 f22) | (go_at_call 18; (with_reducible refine (HKT.out _ HG0.out).1.mono ?_); rintro e w21 ⟨A21, c21, rfl, o21, f21⟩; have HO21 := Lib.hid o21; have HG2 := Lib.hid (fr_nil HG0.out f21); have s1 := HS.out _ HG2.out; clear o21 f21) | (go_at_call 20; (with_reducible refine (sameints_any (c := c21) (c' := c22) (wide_rd HO21b.out) (wide_rd HO22.out) HL9.out).mono ?_); rintro e w23 ⟨rfl, f23⟩; have HG4 := Lib.hid (fr_nil HG3.out f23); have s3 := HS.out _ HG4.out; clear f23) | (go_at_call 14; (with_reducible refine (HKT.out _ HG5.out).2.2.2.1.mono ?_); rintro e w25 ⟨rfl, f25⟩; have HG6 := Lib.hid (fr_nil HG5.out f25); have s5 := HS.out _ HG6.out; clear f25) | (go_at_call 14; (with_reducible refine (HKT.out _ HG4.out).2.2.1.mono ?_); rintro e w24 ⟨rfl, f24⟩; have HG5 := Lib.hid (fr_nil HG4.out f24); have s4 := HS.out _ HG5.out; clear f24))
          all_goals
            clear s0 s1 s2 s3 s4 s5
            go_wp2_with fail
            go_meet
            exact ⟨rfl, rfl, HG6.out⟩
        case rest =>
          clear f
          obtain ⟨rfl, rfl, f⟩ := hcut
          go_wp2_with fail
          go_roundg (C.rs.length - (kk + 1))
          case measure => omega
          case rel => exact ⟨kk + 1, by omega, rfl, by go_num, f⟩
      · obtain ⟨q0, q1, q2, q3, q4, q5, q6, q7, q8, p0, p1, p2, p3, p4, p5, p6, p7, p8⟩ := HS.out wr f
        have K := (KK.out 0 wr f).2.2.2.2
        clear q0 q1 q2 q3 q4 q5 q6 q7 q8
        go_wp2_with fail
        refine K.mono ?_
        clear K p0 p1 p2 p3 p4 p5 p6 p7 p8
        rintro _ w20 ⟨rfl, f20⟩
        have f21 := fr_nil HFB.out (fr_nil f f20)
        clear f f20
        go_wp2_with fail
        go_ret
        exact ⟨rfl, f21⟩
end Go.Proofs.YtbjbkaphigolnaaGreatDoor
/- ConfJoints (P6.1): in a right station a flank's route, an overlap or an approach whose own way does not join is refused; for every configuration and every two whole numbers. The package-level variables that its row lists hold what the program's text lays (the card ties that); no other condition. -/
namespace Go.Proofs.YtbjbkaphigolnaaGreatDoor.confJoints
open Go.ChangeShapes Go.WideShapes Go.ChangeAt Go.RowKit Go.Lib
open Go.ChangeMaps (open_string shut_string)

def wA : Array Value := #[.agg zeroCf, .int .i64 0, .int .i64 0]
theorem met (os : Os) : laidMet Tryz.prog Rows.confJointsRow.laid ((laidWorld os).forCall (fun _ _ => 0) ⟨#[], wA, []⟩).memory := laid_met os
theorem witness_row (os : Os) {H : Type} (enc : TypeId × Value → H) :
    (OpenSpec.ofChange Rows.confJointsSpec).preRow enc Tryz.prog Tryz.f8 Rows.confJointsRow.domain false Rows.confJointsRow.laid ((laidWorld os).forCall (fun _ _ => 0) ⟨#[], wA, []⟩).memory wA := by
  have hw : (DataW.whole enc Tryz.prog ((laidWorld os).forCall (fun _ _ => 0) ⟨#[], wA, []⟩).memory Tryz.f8.params.toList Rows.confJointsSpec.vars false wA.toList 8).map (fun x => (x.1, x.2.1)) =
      some ([.agg [.nil, .nil, .nil, .nil, .nil, .agg [.lit (.int .i64 0), .lit (.int .i64 0), .lit (.int .i64 0), .lit (.int .i64 0)]], .lit (.int .i64 0), .lit (.int .i64 0)], []) := by kernel_rfl
  obtain ⟨⟨x1, x2, x3⟩, hx, hx1⟩ := Option.map_eq_some_iff.1 hw
  simp only [Prod.mk.injEq] at hx1
  obtain ⟨rfl, rfl⟩ := hx1
  exact OpenSpec.preRow_of_cond 8 hx (by kernel_rfl) (fun k hk => by cases hk) (by kernel_rfl) (met os)

set_option maxRecDepth 100000 in
theorem lifted (os : Os) (started : os.Started) (H : Type) (enc : TypeId × Value → H) (F : Stop.Interp) :
    ReturnsInHanded {} Tryz.checked os 8 .any ((OpenSpec.ofChange Rows.confJointsSpec).preRow enc Tryz.prog Tryz.f8 Rows.confJointsRow.domain false Rows.confJointsRow.laid) (((OpenSpec.ofChange Rows.confJointsSpec).at F).post enc Tryz.prog Tryz.f8 false true false false) := by
  refine returnsInHanded_of_row (C := Tryz.checked) (s := OpenSpec.ofChange Rows.confJointsSpec) Tryz.own started (by kernel_rfl) Tryz.func8
    (witness_row_atRef (enc := enc) (C := Tryz.checked) false (laidWorld os) wA rfl (by kernel_rfl) (by kernel_rfl) (by kernel_rfl) (witness_row os enc)) ?_
  intro W base args ds gs before hval0 hW _ hcond hsz0 hL hsh _
  have hval : ∀ (j : Nat) t v, Tryz.f8.params[j]? = some t → args[j]? = some v → Value.okWide Tryz.prog W .any base t v := hval0
  have hsz : (DataW.weightsEach Tryz.prog (Tryz.f8.params.toList ++ (OpenSpec.ofChange Rows.confJointsSpec).bare.plain.varTypes Tryz.prog) (ds ++ gs)).all (· ≤ reachBytes) = true := hsz0
  have hW' := hW
  obtain ⟨p, q, hA0, hV, rfl, hfz, hnd⟩ := hW
  have hA : DataW.TrodAll enc Tryz.prog W 0 (fun _ => true) true Tryz.f8.params.toList args.toList ds p := hA0
  rw [Tryz.params8] at hA hval hsz
  obtain ⟨v0, v1, v2, d0, d1, d2, p0, p1, p2, rfl, rfl, rfl, h0, h1, h2⟩ := trodAll_three hA
  obtain ⟨rfl, rfl⟩ := trodVars_none hV
  obtain ⟨C, rfl, hin⟩ := open_conf (hval 0 30 v0 rfl rfl) h0
  obtain ⟨a1, rfl, rfl, rfl, w1⟩ := open_int Tryz.underlying3 (hval 1 3 v1 rfl rfl) h1
  obtain ⟨a2, rfl, rfl, rfl, w2⟩ := open_int Tryz.underlying3 (hval 2 3 v2 rfl rfl) h2
  have hok : C.Ok W := conf_ok hin hsz (j := 0) rfl rfl
  refine (joints_any6 C a1 a2 W hok (laid_rds hL hsh) (laid_pow hL)).mono fun e W' ⟨he, hb⟩ => ?_
  subst he
  exact law_post hW' rfl (by kernel_rfl) (by rw [Tryz.params8]; exact of_decide_eq_true (by kernel_rfl)) rfl rfl rfl hb.toBelow0

theorem said : Rows.ConfJointsSaid :=
  OpenClaim.holds_of_cond 8 Tryz.f8 rfl rfl rfl rfl rfl rfl rfl ⟨rfl, rfl, rfl, rfl, rfl⟩ rfl rfl rfl rfl rfl (by kernel_rfl) Tryz.func8 (by kernel_rfl)
    (of_decide_eq_true (by kernel_rfl)) (by unfold Func.isWrapper; first | (rw [if_pos (by decide +kernel)]; kernel_rfl) | (rw [if_neg (by decide +kernel)]; exact ⟨rfl, rfl⟩))
    (fun os started H enc _ F => by rw [OpenClaim.pre_eq_preRow]; exact lifted os started H enc F)

/-- No parameter wants a stand-in: what the card asks. -/
theorem plain (f : FuncId) (fn : Func) (hf : Tryz.pinned.checked.prog.funcNamed "ballast/ballastlaw06.ConfJoints" = some f) (hfn : Tryz.pinned.checked.prog.funcs[f]? = some fn) :
    true = Tryz.pinned.checked.prog.looks [] ∧ ∀ (j : Nat) t, fn.params[j]? = some t → Tryz.pinned.checked.prog.wantsStandIn t = false := by
  obtain rfl : f = 8 := Option.some.inj ((show Tryz.prog.funcNamed "ballast/ballastlaw06.ConfJoints" = some 8 by kernel_rfl).symm.trans hf) |>.symm
  obtain rfl : fn = Tryz.f8 := (Option.some.inj (Tryz.func8.symm.trans hfn)).symm
  refine ⟨by kernel_rfl, fun j t ht => ?_⟩
  rw [Tryz.params8] at ht
  have hm := Array.mem_of_getElem? ht
  simp only [List.mem_toArray, List.mem_cons, List.not_mem_nil, or_false] at hm
  rcases hm with rfl | rfl | rfl
  · exact (show Tryz.prog.wantsStandIn 30 = false by kernel_rfl)
  · exact (show Tryz.prog.wantsStandIn 3 = false by kernel_rfl)
  · exact (show Tryz.prog.wantsStandIn 3 = false by kernel_rfl)

theorem proved : Rows.ConfJointsCardSaid :=
  Claim7.holds_tied_plain_at .later [] _ _ _ _ said (fun _ h => by cases h) (by kernel_rfl) (fun _ h => by cases h) confJoints_row_tie rfl ⟨rfl, rfl⟩ (by kernel_rfl) rfl plain (by kernel_rfl)
end Go.Proofs.YtbjbkaphigolnaaGreatDoor.confJoints

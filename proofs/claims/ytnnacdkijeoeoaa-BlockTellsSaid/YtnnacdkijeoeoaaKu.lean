/- Contracts and plain mathematics of earlier stages: Follow, Lines, Check, Same, Plan, Trip, Refs, Refw. -/
import Derived.Test.YtnnacdkijeoeoaaKt
import Derived.Laws.MakeOwn
import Derived.Deep.RegionHeld3
import Derived.StillTailTactics
namespace Go.Proofs.Ytnnacdkijeoeoaa
open Go.RowKit

def cellsT (l : List St) : List Value := l.flatMap fun s => [.int .i64 s.sec, .int .i64 s.inn, .int .i64 s.out]
def cellsB (l : List Bool) : Array Value := (l.map Value.bool).toArray
theorem Try.infoT : (Try.prog.info? 79).map (fun i => (i.zero, i.size, i.bytes)) = some (some (.agg #[.int .i64 0, .int .i64 0, .int .i64 0]), 3, 24) := by kernel_rfl
theorem Try.infoBool : (Try.prog.info? 4).map (fun i => (i.zero, i.size, i.bytes)) = some (some (.bool false), 1, 1) := by kernel_rfl

theorem make_bools (n : Nat) (hn : n ≤ 140737488355328) (W : World) : (Instr.makeSlice 53 (.int .i64 (n : Int)) (.int .i64 (n : Int))).run Try.prog W = .ok (.slice (some ⟨W.heap.size, 0, none⟩) n n) (W.alloc (.cells (cellsB (List.replicate n false)) 4)) := by
  obtain ⟨i0, hi0, hz0, hz1, hz2⟩ := info_parts Try.infoBool
  have h := run_make (P := Try.prog) W 53 4 i0 _ Try.underlying53 hi0 hz0 .i64 .i64 (n : Int) (n : Int) (by omega) (by omega) (by rw [hz2]; omega) (by omega)
  rw [h, hz1, Int.toNat_natCast]
  have e : madeCells (Value.bool false).cells (n * 1) = cellsB (List.replicate n false) := by
    apply Array.ext_getElem?
    intro i
    unfold madeCells cellsB
    by_cases hi : i < n
    · have e2 : i % 1 = 0 := Nat.mod_one i
      simp [Value.cells, hi, e2]
    · simp [hi]
  rw [e]
theorem cellsB_at {l : List Bool} {k : Nat} (h : k < l.length) : (cellsB l)[k]? = some (.bool (seenAt l k)) := by
  unfold cellsB
  rw [List.getElem?_toArray, List.getElem?_map, seenAt_get h]
  rfl
theorem cellsB_set (l : List Bool) (k : Nat) (b : Bool) : (cellsB l).setIfInBounds k (.bool b) = cellsB (l.set k b) := by
  unfold cellsB
  rw [List.setIfInBounds_toArray, List.map_set]

end Go.Proofs.Ytnnacdkijeoeoaa

namespace Go.Proofs.Ytnnacdkijeoeoaa
open Go.RowKit

def linesB (js : List Jo) : Nat → List Bool → List Sec → Bool
  | _, _, [] => true
  | i, t, s :: r => if s.line = 0 then linesB js (i + 1) t r else (!seenAt t s.line.toNat && ((s.kind == 0) && !nextOk js i 1)) && linesB js (i + 1) (t.set s.line.toNat true) r

theorem sections_at : ∀ {l : List Sec} (_ : sectionsB l = true) (j : Nat) (hj : j < l.length), secOkB l[j] = true
  | [], _, _, hj => by simp at hj
  | s :: r, h, 0, _ => by
    rw [sectionsB, Bool.and_eq_true] at h
    exact h.1
  | s :: r, h, j + 1, hj => by
    rw [sectionsB, Bool.and_eq_true] at h
    exact sections_at h.2 j (by simpa using hj)
theorem sec_line {s : Sec} (h : secOkB s = true) : ∃ m : Nat, s.line = m ∧ m < 4 := by
  unfold secOkB at h
  simp at h
  exact ⟨s.line.toNat, by omega, by omega⟩

set_option maxHeartbeats 4000000 in
theorem lines_any {A1 A2 : Option Addr} {c1 c2 : Nat} {l : List Sec} {js : List Jo} (w : World) (h1 : Rd w A1 (cellsS l)) (h2 : Rd w A2 (cellsJ js)) (hl : l.length ≤ 9223372036854775807) (hj : js.length ≤ 9223372036854775807) (hs : sectionsB l = true) :
    Calls Try.prog 53 #[.slice A1 l.length c1, .slice A2 js.length c2] w fun x w' => x = .returned (.bool (linesB js 0 [false, false, false, false] l)) ∧ Fr (fun _ => False) w w' := by
  generalize hO : linesB js 0 [false, false, false, false] l = O
  have HO := Lib.hid hO
  clear hO
  have HS := Lib.hid hs
  clear hs
  go_enter Try.func53, Try.ntmps53
  go_wp2_with fail
  go_loopw [10] (fun t wr => ∃ (j : Nat) (tk : List Bool), j ≤ l.length ∧ t = .int .i64 (j : Nat) ∧ tk.length = 4 ∧ Is wr w.heap.size 128 (cellsB tk) ∧ linesB js j tk (l.drop j) = O ∧ Fr (fun _ => False) w wr) (fun t _ => l.length - (intOf t).toNat)
  case atStart => exact ⟨0, [false, false, false, false], Nat.zero_le _, rfl, rfl, Is.new _ _ _, HO.out, (Fr.refl _ _).alloc _⟩
  case round =>
    clear HO
    obtain ⟨j, tk, hjl, rfl, htk, his, hO, fr⟩ := hrel
    by_cases hlt : j < l.length
    · obtain ⟨g, o, rfl, d0, d1, d2⟩ := rd_sec (h1.fr fr fun _ _ => id) hlt
      obtain ⟨m, hm, hm4⟩ := sec_line (sections_at HS.out j hlt)
      rw [List.drop_eq_getElem_cons hlt, linesB] at hO
      generalize l[j] = v at *
      obtain ⟨k, oc, ln⟩ := v
      simp only at *
      subst hm
      rw [Int.toNat_natCast] at hO
      have his1 := his.alloc (.cells #[.int .i64 k, .int .i64 oc, .int .i64 (m : Nat)] 73)
      have f1 := fr.alloc (.cells #[.int .i64 k, .int .i64 oc, .int .i64 (m : Nat)] 73)
      have hr2 := h2.fr f1 fun _ _ => id
      have KS := fun w h => stands_any (c := c2) (j : Nat) 1 w (l := js) (A := A2) h hj
      have hb := his.lt
      have H1 := Lib.hid h1
      have H2 := Lib.hid h2
      clear h1 h2
      by_cases hm0 : m = 0
      · subst hm0
        have z : ((0 : Nat) : Int) = 0 := rfl
        rw [if_pos z] at hO
        rw [z] at d2 his1 f1
        clear z
        have HO := Lib.hid hO
        have HTK := Lib.hid htk
        clear hO htk hr2 KS
        go_wp2_with fail
        go_roundw
        case rel => exact ⟨j + 1, tk, by omega, by go_num, HTK.out, his1, HO.out, f1⟩
        case measure => simp [intOf]; omega
      · rw [if_neg (by omega)] at hO
        have k0 := (his1.cell m).trans (cellsB_at (by omega))
        have kf := his1.frozen m
        have e0 : ((m : Int) == 0) = false := by simp; omega
        have b0 : (0 : Int) ≤ (m : Int) := by omega
        have b1 : (m : Int) < 4 := by omega
        have HTK := Lib.hid htk
        clear htk hm0
        cases x1 : seenAt tk m
        · rw [x1] at hO k0
          rw [Bool.not_false, Bool.true_and] at hO
          clear x1
          cases x2 : (k == 0)
          · rw [x2] at hO
            rw [Bool.false_and, Bool.false_and] at hO
            subst hO
            have x3 : (k != 0) = true := by simp at x2 ⊢; exact x2
            go_wp2_with fail
            go_ret
            exact ⟨rfl, f1⟩
          · rw [x2] at hO
            rw [Bool.true_and] at hO
            have x3 : (k != 0) = false := by simp at x2 ⊢; exact x2
            cases x4 : nextOk js (j : Nat) 1
            · rw [x4] at hO KS
              rw [Bool.not_false, Bool.true_and] at hO
              have HO := Lib.hid hO
              clear hO x4
              have hne : wr.heap.size ≠ w.heap.size := by omega
              go_wp2_with fail
              refine (KS _ hr2).mono ?_
              clear KS
              rintro x w3 ⟨rfl, f3⟩
              have k2 := f3.cell (p := ⟨wr.heap.size, 2, none⟩) (by simp) id
              simp [World.cell?_alloc_at] at k2
              have his3 := his1.fr f3 id
              have g0 := (his3.cell m).trans (cellsB_at (by rw [HTK.out]; exact hm4))
              have gf := his3.frozen m
              clear his1 k0 kf
              go_wp2_with fail
              go_roundw
              case rel =>
                refine ⟨j + 1, tk.set m true, by omega, by go_num, by rw [List.length_set]; exact HTK.out, ?_, HO.out, (fr_nil f1 f3).setCell (p := ⟨w.heap.size, m, none⟩) (.inr (Nat.le_refl _)) _⟩
                have := his3.set m (.bool true)
                rw [cellsB_set] at this
                exact this
              case measure => simp [intOf]; omega
            · rw [x4] at hO KS
              rw [Bool.not_true, Bool.false_and] at hO
              subst hO
              clear x4
              go_wp2_with fail
              refine (KS _ hr2).mono ?_
              clear KS
              rintro x w3 ⟨rfl, f3⟩
              go_wp2_with fail
              go_ret
              exact ⟨rfl, fr_nil f1 f3⟩
        · rw [x1] at hO k0
          rw [Bool.not_true, Bool.false_and, Bool.false_and] at hO
          subst hO
          clear x1
          go_wp2_with fail
          go_ret
          exact ⟨rfl, f1⟩
    · have hjl : j = l.length := by omega
      subst hjl
      rw [List.drop_length] at hO
      have hO' : true = O := hO
      subst hO'
      clear hO
      go_wp2_with fail
      go_ret
      exact ⟨rfl, fr⟩
end Go.Proofs.Ytnnacdkijeoeoaa

namespace Go.Proofs.Ytnnacdkijeoeoaa
open Go.RowKit

def tk0 : List Bool := [false, false, false, false]
def checkB (l : List Sec) (js : List Jo) : Bool := sizesB l js && (sectionsB l && (jointsB l js && linesB js 0 tk0 l))
def errOf (b : Bool) : Int := if b = true then 0 else 6

theorem sizes_short {l : List Sec} {js : List Jo} (h : sizesB l js = true) : 1 ≤ l.length ∧ l.length ≤ 16 ∧ js.length ≤ 24 := by
  unfold sizesB at h
  simp at h
  omega

set_option maxHeartbeats 2000000 in
theorem check_any {A1 A2 : Option Addr} {c1 c2 : Nat} {l : List Sec} {js : List Jo} (w : World) (h1 : Rd w A1 (cellsS l)) (h2 : Rd w A2 (cellsJ js)) (hl : l.length ≤ 9223372036854775807) (hj : js.length ≤ c2) (hc2 : c2 ≤ 9223372036854775807) :
    Calls Try.prog 33 #[.slice A1 l.length c1, .slice A2 js.length c2] w fun x w' => x = .returned (.int .i64 (errOf (checkB l js))) ∧ Fr (fun _ => False) w w' := by
  unfold checkB
  have K1 := fun w => sizes_any (A1 := A1) (A2 := A2) (c1 := c1) (c2 := c2) l js w
  have K2 := fun w h => sections_any (c := c1) w (A := A1) (l := l) h hl
  have K3 := fun w h h' => joints_any (c1 := c1) (c2 := c2) w (A1 := A1) (A2 := A2) (l := l) (js := js) h h' hj hc2
  have K4 := fun w h h' hs => lines_any (c1 := c1) (c2 := c2) w (A1 := A1) (A2 := A2) (l := l) (js := js) h h' hl (by omega) hs
  have e6 : errOf false = 6 := rfl
  have e0 : errOf true = 0 := rfl
  cases x1 : sizesB l js
  · rw [x1] at K1
    rw [Bool.false_and, e6]
    clear x1 e6 e0
    go_enter Try.func33, Try.ntmps33
    go_wp2_with fail
    refine (K1 _).mono ?_
    clear K1
    rintro x w3 ⟨rfl, rfl⟩
    go_wp2_with fail
    go_ret
    exact ⟨rfl, Fr.refl _ _⟩
  · rw [x1] at K1
    rw [Bool.true_and]
    cases x2 : sectionsB l
    · rw [x2] at K2
      rw [Bool.false_and, e6]
      clear x1 x2 e6 e0 K4
      go_enter Try.func33, Try.ntmps33
      go_wp2_with fail
      refine (K1 _).mono ?_
      clear K1
      rintro x w3 ⟨rfl, rfl⟩
      go_wp2_with fail
      refine (K2 _ h1).mono ?_
      clear K2
      rintro x w4 ⟨rfl, f4⟩
      go_wp2_with fail
      go_ret
      exact ⟨rfl, f4⟩
    · rw [x2] at K2
      rw [Bool.true_and]
      cases x3 : jointsB l js
      · rw [x3] at K3
        rw [Bool.false_and, e6]
        clear x1 x2 x3 e6 e0 K4
        go_enter Try.func33, Try.ntmps33
        go_wp2_with fail
        refine (K1 _).mono ?_
        clear K1
        rintro x w3 ⟨rfl, rfl⟩
        go_wp2_with fail
        refine (K2 _ h1).mono ?_
        clear K2
        rintro x w4 ⟨rfl, f4⟩
        go_wp2_with fail
        refine (K3 _ (h1.fr f4 fun _ _ => id) (h2.fr f4 fun _ _ => id)).mono ?_
        clear K3
        rintro x w5 ⟨rfl, f5⟩
        go_wp2_with fail
        go_ret
        exact ⟨rfl, fr_nil f4 f5⟩
      · rw [x3] at K3
        rw [Bool.true_and]
        have K5 := fun w h h' => K4 w h h' x2
        cases x4 : linesB js 0 tk0 l
        · rw [show linesB js 0 [false, false, false, false] l = false from x4] at K5
          rw [e6]
          clear x1 x2 x3 x4 e6 e0 K4
          go_enter Try.func33, Try.ntmps33
          go_wp2_with fail
          refine (K1 _).mono ?_
          clear K1
          rintro x w3 ⟨rfl, rfl⟩
          go_wp2_with fail
          refine (K2 _ h1).mono ?_
          clear K2
          rintro x w4 ⟨rfl, f4⟩
          go_wp2_with fail
          refine (K3 _ (h1.fr f4 fun _ _ => id) (h2.fr f4 fun _ _ => id)).mono ?_
          clear K3
          rintro x w5 ⟨rfl, f5⟩
          have f6 := fr_nil f4 f5
          go_wp2_with fail
          refine (K5 _ (h1.fr f6 fun _ _ => id) (h2.fr f6 fun _ _ => id)).mono ?_
          clear K5
          rintro x w6 ⟨rfl, f7⟩
          go_wp2_with fail
          go_ret
          exact ⟨rfl, fr_nil f6 f7⟩
        · rw [show linesB js 0 [false, false, false, false] l = true from x4] at K5
          rw [e0]
          clear x1 x2 x3 x4 e6 e0 K4
          go_enter Try.func33, Try.ntmps33
          go_wp2_with fail
          refine (K1 _).mono ?_
          clear K1
          rintro x w3 ⟨rfl, rfl⟩
          go_wp2_with fail
          refine (K2 _ h1).mono ?_
          clear K2
          rintro x w4 ⟨rfl, f4⟩
          go_wp2_with fail
          refine (K3 _ (h1.fr f4 fun _ _ => id) (h2.fr f4 fun _ _ => id)).mono ?_
          clear K3
          rintro x w5 ⟨rfl, f5⟩
          have f6 := fr_nil f4 f5
          go_wp2_with fail
          refine (K5 _ (h1.fr f6 fun _ _ => id) (h2.fr f6 fun _ _ => id)).mono ?_
          clear K5
          rintro x w6 ⟨rfl, f7⟩
          go_wp2_with fail
          go_ret
          exact ⟨rfl, fr_nil f6 f7⟩
end Go.Proofs.Ytnnacdkijeoeoaa

namespace Go.Proofs.Ytnnacdkijeoeoaa
open Go.RowKit

theorem cellsT_at {l : List St} {j : Nat} (h : j < l.length) : (cellsT l)[j * 3]? = some (.int .i64 l[j].sec) ∧ (cellsT l)[j * 3 + 1]? = some (.int .i64 l[j].inn) ∧ (cellsT l)[j * 3 + 2]? = some (.int .i64 l[j].out) := by
  induction l generalizing j with
  | nil => simp at h
  | cons v r ih =>
    have e : cellsT (v :: r) = [.int .i64 v.sec, .int .i64 v.inn, .int .i64 v.out] ++ cellsT r := rfl
    rcases j with _ | j
    · rw [e]; simp
    · have := ih (j := j) (by simpa using h)
      rw [e, show (j + 1) * 3 = 3 + j * 3 by omega, show 3 + j * 3 + 1 = 3 + (j * 3 + 1) by omega, show 3 + j * 3 + 2 = 3 + (j * 3 + 2) by omega]
      rw [List.getElem?_append_right (by simp), List.getElem?_append_right (by simp), List.getElem?_append_right (by simp)]
      simpa using this
theorem rd_st {w : World} {A : Option Addr} {l : List St} (h : Rd w A (cellsT l)) {j : Nat} (hj : j < l.length) : ∃ g o, A = some ⟨g, o, none⟩ ∧ w.cell? ⟨g, o + j * 3, none⟩ = some (.int .i64 l[j].sec) ∧ w.cell? ⟨g, o + j * 3 + 1, none⟩ = some (.int .i64 l[j].inn) ∧ w.cell? ⟨g, o + j * 3 + 2, none⟩ = some (.int .i64 l[j].out) := by
  obtain ⟨h0, h1, h2⟩ := cellsT_at hj
  obtain ⟨g, o, rfl, _, hc⟩ := h (by have := (List.getElem?_eq_some_iff.1 h0).1; omega)
  exact ⟨g, o, rfl, hc _ _ h0, hc _ _ h1, hc _ _ h2⟩

end Go.Proofs.Ytnnacdkijeoeoaa

namespace Go.Proofs.Ytnnacdkijeoeoaa

/-- in how many places of the joints an end stands -/
def countM : List Jo → Int → Int → Nat
  | [], _, _ => 0
  | j :: r, s, e => (if jA j s e = true then 1 else 0) + (if jB j s e = true then 1 else 0) + countM r s e

theorem jA_iff (j : Jo) (s e : Int) : jA j s e = true ↔ j.a = s ∧ j.ae = e := by simp [jA]
theorem jB_iff (j : Jo) (s e : Int) : jB j s e = true ↔ j.b = s ∧ j.be = e := by simp [jB]

theorem count_next : ∀ (js : List Jo) (s e : Int), countM js s e = 0 ↔ nextOk js s e = false
  | [], _, _ => by simp [countM, nextOk]
  | j :: r, s, e => by
    have ih := count_next r s e
    rw [countM, nextOk]
    cases jA j s e <;> cases jB j s e <;> simp [ih]

theorem next_mem : ∀ {js : List Jo} {s e : Int}, nextOk js s e = true ↔ ∃ j ∈ js, jA j s e = true ∨ jB j s e = true
  | [], _, _ => by simp [nextOk]
  | j :: r, s, e => by
    rw [nextOk, Bool.or_eq_true, Bool.or_eq_true, next_mem (js := r)]
    simp

theorem joOk_parts {l : List Sec} {j : Jo} (h : joOkB l j = true) : j.a ≠ j.b ∧ isEndB l j.a j.ae = true ∧ isEndB l j.b j.be = true := by
  unfold joOkB at h
  simp only [Bool.and_eq_true, Bool.not_eq_true', beq_eq_false_iff_ne] at h
  exact ⟨h.1.1, h.1.2, h.2⟩

/-- On a right plan what meets an end is met by it. -/
theorem next_back {l : List Sec} : ∀ {js : List Jo}, jointsB l js = true → ∀ {s e : Int}, nextOk js s e = true →
    nextOk js (nextS js s e) (nextE js s e) = true ∧ nextS js (nextS js s e) (nextE js s e) = s ∧ nextE js (nextS js s e) (nextE js s e) = e ∧ nextS js s e ≠ s ∧ isEndB l (nextS js s e) (nextE js s e) = true
  | [], _, _, _, h => by cases h
  | j :: r, hr, s, e, h => by
    rw [jointsB, Bool.and_eq_true, Bool.and_eq_true, Bool.and_eq_true, Bool.not_eq_true', Bool.not_eq_true'] at hr
    obtain ⟨⟨h1, h2, h3⟩, h4⟩ := hr
    obtain ⟨hne, e1, e2⟩ := joOk_parts h1
    by_cases hA : jA j s e = true
    · obtain ⟨rfl, rfl⟩ := (jA_iff _ _ _).1 hA
      have k1 : nextS (j :: r) j.a j.ae = j.b := by rw [nextS, if_pos hA]
      have k2 : nextE (j :: r) j.a j.ae = j.be := by rw [nextE, if_pos hA]
      have nA : jA j j.b j.be ≠ true := fun h => hne ((jA_iff _ _ _).1 h).1
      have yB : jB j j.b j.be = true := (jB_iff _ _ _).2 ⟨rfl, rfl⟩
      rw [k1, k2]
      refine ⟨?_, ?_, ?_, fun h => hne h.symm, e2⟩
      · rw [nextOk, yB]; simp
      · rw [nextS, if_neg nA, if_pos yB]
      · rw [nextE, if_neg nA, if_pos yB]
    · by_cases hB : jB j s e = true
      · obtain ⟨rfl, rfl⟩ := (jB_iff _ _ _).1 hB
        have k1 : nextS (j :: r) j.b j.be = j.a := by rw [nextS, if_neg hA, if_pos hB]
        have k2 : nextE (j :: r) j.b j.be = j.ae := by rw [nextE, if_neg hA, if_pos hB]
        have yA : jA j j.a j.ae = true := (jA_iff _ _ _).2 ⟨rfl, rfl⟩
        rw [k1, k2]
        refine ⟨?_, ?_, ?_, hne, e1⟩
        · rw [nextOk, yA]; simp
        · rw [nextS, if_pos yA]
        · rw [nextE, if_pos yA]
      · have hn : nextOk r s e = true := by
          rw [nextOk, Bool.or_eq_true, Bool.or_eq_true] at h
          rcases h with (h | h) | h
          · exact absurd h hA
          · exact absurd h hB
          · exact h
        have k1 : nextS (j :: r) s e = nextS r s e := by rw [nextS, if_neg hA, if_neg hB]
        have k2 : nextE (j :: r) s e = nextE r s e := by rw [nextE, if_neg hA, if_neg hB]
        obtain ⟨i1, i2, i3, i4, i5⟩ := next_back h4 hn
        rw [k1, k2]
        have nA : jA j (nextS r s e) (nextE r s e) ≠ true := fun h => by
          obtain ⟨a1, a2⟩ := (jA_iff _ _ _).1 h
          rw [a1, a2] at h2
          rw [h2] at i1
          cases i1
        have nB : jB j (nextS r s e) (nextE r s e) ≠ true := fun h => by
          obtain ⟨a1, a2⟩ := (jB_iff _ _ _).1 h
          rw [a1, a2] at h3
          rw [h3] at i1
          cases i1
        refine ⟨?_, ?_, ?_, i4, i5⟩
        · rw [nextOk, i1]; simp
        · rw [nextS, if_neg nA, if_neg nB]; exact i2
        · rw [nextE, if_neg nA, if_neg nB]; exact i3

/-- a joint of the document's check -/
def rjoB (l : List Sec) (js : List Jo) (j : Jo) : Bool := joOkB l j && (decide (countM js j.a j.ae ≤ 1) && decide (countM js j.b j.be ≤ 1))
theorem joints_ref {l : List Sec} : ∀ (js : List Jo), jointsB l js = true ↔ ∀ j ∈ js, rjoB l js j = true
  | [] => by simp [jointsB]
  | j :: r => by
    have ih := joints_ref (l := l) r
    rw [jointsB, Bool.and_eq_true, Bool.and_eq_true, Bool.and_eq_true, Bool.not_eq_true', Bool.not_eq_true', ih]
    constructor
    · rintro ⟨⟨h1, h2, h3⟩, h4⟩
      obtain ⟨hne, _, _⟩ := joOk_parts h1
      intro j' hj'
      rcases List.mem_cons.1 hj' with rfl | hr
      · unfold rjoB
        have c1 := (count_next r j'.a j'.ae).2 h2
        have c2 := (count_next r j'.b j'.be).2 h3
        have n1 : jB j' j'.a j'.ae ≠ true := fun h => hne ((jB_iff _ _ _).1 h).1.symm
        have n2 : jA j' j'.b j'.be ≠ true := fun h => hne ((jA_iff _ _ _).1 h).1
        rw [h1, countM, countM, c1, c2, if_neg n1, if_neg n2]
        simp
        constructor <;> split <;> omega
      · have h5 := h4 j' hr
        unfold rjoB at h5 ⊢
        rw [Bool.and_eq_true, Bool.and_eq_true, decide_eq_true_eq, decide_eq_true_eq] at h5 ⊢
        obtain ⟨k1, k2, k3⟩ := h5
        have m1 : jA j j'.a j'.ae ≠ true := fun h => by
          obtain ⟨a1, a2⟩ := (jA_iff _ _ _).1 h
          have : nextOk r j.a j.ae = true := next_mem.2 ⟨j', hr, .inl ((jA_iff _ _ _).2 ⟨a1.symm, a2.symm⟩)⟩
          rw [h2] at this; cases this
        have m2 : jB j j'.a j'.ae ≠ true := fun h => by
          obtain ⟨a1, a2⟩ := (jB_iff _ _ _).1 h
          have : nextOk r j.b j.be = true := next_mem.2 ⟨j', hr, .inl ((jA_iff _ _ _).2 ⟨a1.symm, a2.symm⟩)⟩
          rw [h3] at this; cases this
        have m3 : jA j j'.b j'.be ≠ true := fun h => by
          obtain ⟨a1, a2⟩ := (jA_iff _ _ _).1 h
          have : nextOk r j.a j.ae = true := next_mem.2 ⟨j', hr, .inr ((jB_iff _ _ _).2 ⟨a1.symm, a2.symm⟩)⟩
          rw [h2] at this; cases this
        have m4 : jB j j'.b j'.be ≠ true := fun h => by
          obtain ⟨a1, a2⟩ := (jB_iff _ _ _).1 h
          have : nextOk r j.b j.be = true := next_mem.2 ⟨j', hr, .inr ((jB_iff _ _ _).2 ⟨a1.symm, a2.symm⟩)⟩
          rw [h3] at this; cases this
        rw [countM, countM, if_neg m1, if_neg m2, if_neg m3, if_neg m4]
        exact ⟨k1, by omega, by omega⟩
    · intro h
      have h0 := h j (by simp)
      unfold rjoB at h0
      rw [Bool.and_eq_true, Bool.and_eq_true, decide_eq_true_eq, decide_eq_true_eq] at h0
      obtain ⟨k1, k2, k3⟩ := h0
      have y1 : jA j j.a j.ae = true := (jA_iff _ _ _).2 ⟨rfl, rfl⟩
      have y2 : jB j j.b j.be = true := (jB_iff _ _ _).2 ⟨rfl, rfl⟩
      rw [countM, if_pos y1] at k2
      rw [countM, if_pos y2] at k3
      refine ⟨⟨k1, (count_next _ _ _).1 (by omega), (count_next _ _ _).1 (by omega)⟩, fun j' hr => ?_⟩
      have h5 := h j' (by simp [hr])
      unfold rjoB at h5 ⊢
      rw [Bool.and_eq_true, Bool.and_eq_true, decide_eq_true_eq, decide_eq_true_eq] at h5 ⊢
      rw [countM, countM] at h5
      exact ⟨h5.1, by omega, by omega⟩

/-- a section of the document's check: the one at i, the lines of those ahead of it -/
def lineIn (ln : Int) : List Sec → Bool
  | [] => false
  | s :: r => (s.line == ln) || lineIn ln r
theorem lineIn_iff (ln : Int) : ∀ (l : List Sec), lineIn ln l = true ↔ ∃ s ∈ l, s.line = ln
  | [] => by simp [lineIn]
  | s :: r => by
    rw [lineIn, Bool.or_eq_true, lineIn_iff ln r]
    simp
def rsecB (js : List Jo) (i : Nat) (ahead : List Sec) (s : Sec) : Bool := secOkB s && ((s.line == 0) || ((s.kind == 0) && (countM js i 1 == 0) && !lineIn s.line ahead))
def rsecsB (js : List Jo) : Nat → List Sec → List Sec → Bool
  | _, _, [] => true
  | i, ahead, s :: r => rsecB js i ahead s && rsecsB js (i + 1) (ahead ++ [s]) r

theorem count_zero (js : List Jo) (s e : Int) : (countM js s e == 0) = !nextOk js s e := by
  have h := count_next js s e
  cases hn : nextOk js s e
  · rw [hn] at h
    simp [h.2 rfl]
  · rw [hn] at h
    have : countM js s e ≠ 0 := fun e => by have := h.1 e; cases this
    simp [this]

/-- The two ways of checking lines come to the same. -/
theorem lines_ref (js : List Jo) : ∀ (r : List Sec) (i : Nat) (tk : List Bool) (ahead : List Sec), tk.length = 4 → (∀ m : Nat, m < 4 → m ≠ 0 → seenAt tk m = lineIn (m : Nat) ahead) →
    (sectionsB r && linesB js i tk r) = rsecsB js i ahead r
  | [], _, _, _, _, _ => rfl
  | s :: r, i, tk, ahead, htk, hs => by
    rw [sectionsB, linesB, rsecsB, rsecB]
    cases hok : secOkB s
    · simp
    · obtain ⟨m, hm, hm4⟩ := sec_line hok
      rw [hm, Int.toNat_natCast, count_zero]
      by_cases h0 : m = 0
      · subst h0
        have ih := lines_ref js r (i + 1) tk (ahead ++ [s]) htk (fun n hn hn0 => by
          rw [hs n hn hn0, Bool.eq_iff_iff, lineIn_iff, lineIn_iff]
          constructor
          · rintro ⟨x, hx, e⟩
            exact ⟨x, by simp [hx], e⟩
          · rintro ⟨x, hx, e⟩
            rcases List.mem_append.1 hx with hx | hx
            · exact ⟨x, hx, e⟩
            · have : x = s := by simpa using hx
              subst this
              omega)
        rw [← ih]
        simp
      · rw [if_neg (by omega), hs m hm4 h0]
        have hml : ((m : Int) == 0) = false := by simp; omega
        rw [hml]
        have ih := lines_ref js r (i + 1) (tk.set m true) (ahead ++ [s]) (by rw [List.length_set]; exact htk) (fun n hn hn0 => by
          rw [seenAt_set _ _ _ (by omega), hs n hn hn0, Bool.eq_iff_iff, Bool.or_eq_true, lineIn_iff, lineIn_iff, decide_eq_true_eq]
          constructor
          · rintro (rfl | ⟨x, hx, e⟩)
            · exact ⟨s, by simp, hm⟩
            · exact ⟨x, by simp [hx], e⟩
          · rintro ⟨x, hx, e⟩
            rcases List.mem_append.1 hx with hx | hx
            · exact .inr ⟨x, hx, e⟩
            · have : x = s := by simpa using hx
              subst this
              exact .inl (by omega))
        rw [← ih]
        cases lineIn (m : Nat) ahead <;> cases (s.kind == 0) <;> cases nextOk js i 1 <;> cases sectionsB r <;> simp

/-- The document's check. -/
def rcheckB (l : List Sec) (js : List Jo) : Bool := sizesB l js && (rsecsB js 0 [] l && js.all (rjoB l js))
theorem check_ref (l : List Sec) (js : List Jo) : checkB l js = rcheckB l js := by
  unfold checkB rcheckB
  have h1 := lines_ref js l 0 tk0 [] rfl (fun m hm h0 => by
    match m, hm, h0 with
    | 1, _, _ => rfl
    | 2, _, _ => rfl
    | 3, _, _ => rfl)
  rw [← h1]
  have h2 : jointsB l js = js.all (rjoB l js) := by rw [Bool.eq_iff_iff, joints_ref, List.all_eq_true]
  rw [← h2]
  cases sectionsB l <;> cases jointsB l js <;> cases linesB js 0 tk0 l <;> simp
end Go.Proofs.Ytnnacdkijeoeoaa

namespace Go.Proofs.Ytnnacdkijeoeoaa

section
variable {l : List Sec} {js : List Jo} {p q : List Int}

/-- from y on to the end i of s -/
def leads (js : List Jo) (y : St) (s i : Int) : Prop := nextOk js y.sec y.out = true ∧ nextS js y.sec y.out = s ∧ nextE js y.sec y.out = i
/-- in none of a list's sections -/
def apart (r : List St) (s : Int) : Prop := ∀ y ∈ r, y.sec ≠ s
end
end Go.Proofs.Ytnnacdkijeoeoaa

namespace Go.Proofs.Ytnnacdkijeoeoaa
open Go.RowKit

/-- the greatest end of a list of ways, and one -/
def topL : List Wy → Int → Int
  | [], n => n
  | v :: r, n => topL r (max (max n (v.a + 1)) (v.b + 1))
theorem topL_ends (k : Int) : topL (waysM k) 0 = endsM k := by
  rcases kind_cases k with rfl | rfl | rfl | hk
  · decide
  · decide
  · decide
  · rw [ways_none hk, ends_none.2 hk]
    rfl
theorem way_lo {k : Int} {v : Wy} (h : v ∈ waysM k) : 0 ≤ v.a ∧ v.a ≤ 3 ∧ 0 ≤ v.b ∧ v.b ≤ 3 ∧ v.a ≠ v.b := by
  rcases kind_cases k with rfl | rfl | rfl | hk
  · have : v = ⟨0, 1, 0⟩ := by simpa [waysM] using h
    subst this; simp
  · have : v = ⟨0, 1, 1⟩ ∨ v = ⟨0, 2, 2⟩ := by simpa [waysM] using h
    rcases this with rfl | rfl <;> simp
  · have : v = ⟨0, 1, 0⟩ ∨ v = ⟨2, 3, 0⟩ := by simpa [waysM] using h
    rcases this with rfl | rfl <;> simp
  · rw [ways_none hk] at h
    simp at h

end Go.Proofs.Ytnnacdkijeoeoaa

namespace Go.Proofs.Ytnnacdkijeoeoaa
open Go.RowKit

theorem pos_tests (v : Wy) (i o : Int) (h : v.a ≠ v.b) : (farOk v i && decide (farOut v i = o)) = ((decide (v.a = i) && decide (v.b = o)) || (decide (v.b = i) && decide (v.a = o))) := by
  unfold farOk farOut
  rw [Bool.eq_iff_iff]
  by_cases h1 : i = v.a
  · have : v.b ≠ i := fun e => h (by omega)
    simp [h1]
    omega
  · by_cases h2 : i = v.b
    · have : v.a ≠ i := fun e => h (by omega)
      simp [h2]
      omega
    · simp [h1, h2]
      omega

end Go.Proofs.Ytnnacdkijeoeoaa


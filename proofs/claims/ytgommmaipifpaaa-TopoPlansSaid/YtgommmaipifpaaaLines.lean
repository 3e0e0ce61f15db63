/- The contract of linesRight: no two sections have one line, and a line's section is plain, with its end 1 in no joint. -/
import Derived.Test.YtgommmaipifpaaaJoints
import Derived.Test.YtgommmaipifpaaaFollow
namespace Go.Proofs.Ytgommmaipifpaaa
open Go.RowKit

def linesB (js : List Jo) : Nat → List Bool → List Sec → Bool
  | _, _, [] => true
  | i, t, s :: r => if s.line = 0 then linesB js (i + 1) t r else (!seenAt t s.line.toNat && ((s.kind == 0) && !nextOk js i 1)) && linesB js (i + 1) (t.set s.line.toNat true) r

theorem sections_at : ∀ {l : List Sec} (_ : sectionsB l = true) (j : Nat) (hj : j < l.length), secOkB l[j] = true
  | [], _, _, hj => by simp at hj
  | s :: r, h, 0, _ => by
    rw [sectionsB, Bool.and_eq_true] at h
    exact h.1
  | s :: r, h, j + 1, hj => by
    rw [sectionsB, Bool.and_eq_true] at h
    exact sections_at h.2 j (by simpa using hj)
theorem sec_line {s : Sec} (h : secOkB s = true) : ∃ m : Nat, s.line = m ∧ m < 4 := by
  unfold secOkB at h
  simp at h
  exact ⟨s.line.toNat, by omega, by omega⟩

set_option maxHeartbeats 4000000 in
theorem lines_any {A1 A2 : Option Addr} {c1 c2 : Nat} {l : List Sec} {js : List Jo} (w : World) (h1 : Rd w A1 (cellsS l)) (h2 : Rd w A2 (cellsJ js)) (hl : l.length ≤ 9223372036854775807) (hj : js.length ≤ 9223372036854775807) (hs : sectionsB l = true) :
    Calls Try.prog 28 #[.slice A1 l.length c1, .slice A2 js.length c2] w fun x w' => x = .returned (.bool (linesB js 0 [false, false, false, false] l)) ∧ Fr (fun _ => False) w w' := by
  generalize hO : linesB js 0 [false, false, false, false] l = O
  have HO := Lib.hid hO
  clear hO
  have HS := Lib.hid hs
  clear hs
  go_enter Try.func28, Try.ntmps28
  go_wp2_with fail
  go_loopw [10] (fun t wr => ∃ (j : Nat) (tk : List Bool), j ≤ l.length ∧ t = .int .i64 (j : Nat) ∧ tk.length = 4 ∧ Is wr w.heap.size 72 (cellsB tk) ∧ linesB js j tk (l.drop j) = O ∧ Fr (fun _ => False) w wr) (fun t _ => l.length - (intOf t).toNat)
  case atStart => exact ⟨0, [false, false, false, false], Nat.zero_le _, rfl, rfl, Is.new _ _ _, HO.out, (Fr.refl _ _).alloc _⟩
  case round =>
    clear HO
    obtain ⟨j, tk, hjl, rfl, htk, his, hO, fr⟩ := hrel
    by_cases hlt : j < l.length
    · obtain ⟨g, o, rfl, d0, d1, d2⟩ := rd_sec (h1.fr fr fun _ _ => id) hlt
      obtain ⟨m, hm, hm4⟩ := sec_line (sections_at HS.out j hlt)
      rw [List.drop_eq_getElem_cons hlt, linesB] at hO
      generalize l[j] = v at *
      obtain ⟨k, oc, ln⟩ := v
      simp only at *
      subst hm
      rw [Int.toNat_natCast] at hO
      have his1 := his.alloc (.cells #[.int .i64 k, .int .i64 oc, .int .i64 (m : Nat)] 28)
      have f1 := fr.alloc (.cells #[.int .i64 k, .int .i64 oc, .int .i64 (m : Nat)] 28)
      have hr2 := h2.fr f1 fun _ _ => id
      have KS := fun w h => stands_any (c := c2) (j : Nat) 1 w (l := js) (A := A2) h hj
      have hb := his.lt
      have H1 := Lib.hid h1
      have H2 := Lib.hid h2
      clear h1 h2
      by_cases hm0 : m = 0
      · subst hm0
        have z : ((0 : Nat) : Int) = 0 := rfl
        rw [if_pos z] at hO
        rw [z] at d2 his1 f1
        clear z
        have HO := Lib.hid hO
        have HTK := Lib.hid htk
        clear hO htk hr2 KS
        go_wp2_with fail
        go_roundw
        case rel => exact ⟨j + 1, tk, by omega, by go_num, HTK.out, his1, HO.out, f1⟩
        case measure => simp [intOf]; omega
      · rw [if_neg (by omega)] at hO
        have k0 := (his1.cell m).trans (cellsB_at (by omega))
        have kf := his1.frozen m
        have e0 : ((m : Int) == 0) = false := by simp; omega
        have b0 : (0 : Int) ≤ (m : Int) := by omega
        have b1 : (m : Int) < 4 := by omega
        have HTK := Lib.hid htk
        clear htk hm0
        cases x1 : seenAt tk m
        · rw [x1] at hO k0
          rw [Bool.not_false, Bool.true_and] at hO
          clear x1
          cases x2 : (k == 0)
          · rw [x2] at hO
            rw [Bool.false_and, Bool.false_and] at hO
            subst hO
            have x3 : (k != 0) = true := by simp at x2 ⊢; exact x2
            go_wp2_with fail
            go_ret
            exact ⟨rfl, f1⟩
          · rw [x2] at hO
            rw [Bool.true_and] at hO
            have x3 : (k != 0) = false := by simp at x2 ⊢; exact x2
            cases x4 : nextOk js (j : Nat) 1
            · rw [x4] at hO KS
              rw [Bool.not_false, Bool.true_and] at hO
              have HO := Lib.hid hO
              clear hO x4
              have hne : wr.heap.size ≠ w.heap.size := by omega
              go_wp2_with fail
              refine (KS _ hr2).mono ?_
              clear KS
              rintro x w3 ⟨rfl, f3⟩
              have k2 := f3.cell (p := ⟨wr.heap.size, 2, none⟩) (by simp) id
              simp [World.cell?_alloc_at] at k2
              have his3 := his1.fr f3 id
              have g0 := (his3.cell m).trans (cellsB_at (by rw [HTK.out]; exact hm4))
              have gf := his3.frozen m
              clear his1 k0 kf
              go_wp2_with fail
              go_roundw
              case rel =>
                refine ⟨j + 1, tk.set m true, by omega, by go_num, by rw [List.length_set]; exact HTK.out, ?_, HO.out, (fr_nil f1 f3).setCell (p := ⟨w.heap.size, m, none⟩) (.inr (Nat.le_refl _)) _⟩
                have := his3.set m (.bool true)
                rw [cellsB_set] at this
                exact this
              case measure => simp [intOf]; omega
            · rw [x4] at hO KS
              rw [Bool.not_true, Bool.false_and] at hO
              subst hO
              clear x4
              go_wp2_with fail
              refine (KS _ hr2).mono ?_
              clear KS
              rintro x w3 ⟨rfl, f3⟩
              go_wp2_with fail
              go_ret
              exact ⟨rfl, fr_nil f1 f3⟩
        · rw [x1] at hO k0
          rw [Bool.not_true, Bool.false_and, Bool.false_and] at hO
          subst hO
          clear x1
          go_wp2_with fail
          go_ret
          exact ⟨rfl, f1⟩
    · have hjl : j = l.length := by omega
      subst hjl
      rw [List.drop_length] at hO
      have hO' : true = O := hO
      subst hO'
      clear hO
      go_wp2_with fail
      go_ret
      exact ⟨rfl, fr⟩
end Go.Proofs.Ytgommmaipifpaaa

/- The contract of jointsRight: each joint joins two ends of two sections, and no end stands in two joints. -/
import Derived.Test.YtgommmaipifpaaaRight
namespace Go.Proofs.Ytgommmaipifpaaa
open Go.RowKit

theorem sym_false (a b : Int) (h : ((a == b) = false)) : (b == a) = false := by
  simp at h ⊢
  exact fun e => h e.symm

set_option maxHeartbeats 4000000 in
theorem joints_any {A1 A2 : Option Addr} {c1 c2 : Nat} {l : List Sec} {js : List Jo} (w : World) (h1 : Rd w A1 (cellsS l)) (h2 : Rd w A2 (cellsJ js)) (hj : js.length ≤ c2) (hc2 : c2 ≤ 9223372036854775807) :
    Calls Try.prog 27 #[.slice A1 l.length c1, .slice A2 js.length c2] w fun x w' => x = .returned (.bool (jointsB l js)) ∧ Fr (fun _ => False) w w' := by
  generalize hO : jointsB l js = O
  have HO := Lib.hid hO
  clear hO
  go_enter Try.func27, Try.ntmps27
  go_wp2_with fail
  go_loopw [10] (fun t wr => ∃ j : Nat, j ≤ js.length ∧ t = .int .i64 (j : Nat) ∧ jointsB l (js.drop j) = O ∧ Fr (fun _ => False) w wr) (fun t _ => js.length - (intOf t).toNat)
  case atStart => exact ⟨0, Nat.zero_le _, rfl, HO.out, Fr.refl _ _⟩
  case round =>
    clear HO
    obtain ⟨j, hjl, rfl, hO, fr⟩ := hrel
    by_cases hlt : j < js.length
    · obtain ⟨A3, c3, hsl, hr3, hl3, hc3⟩ := behind_slice (h2.fr fr fun _ _ => id) hj j hlt hc2
      obtain ⟨g, o, rfl, d0, d1, d2, d3⟩ := rd_jo (h2.fr fr fun _ _ => id) hlt
      rw [List.drop_eq_getElem_cons hlt, jointsB, joOkB] at hO
      generalize js[j] = v at *
      obtain ⟨a, ae, b, be⟩ := v
      simp only at *
      have HD := Lib.hid h2
      have h1r := h1.fr fr fun _ _ => id
      have KE1 := fun w h => isend_any (c := c1) a ae w (l := l) (A := A1) h
      have KE2 := fun w h => isend_any (c := c1) b be w (l := l) (A := A1) h
      have KS1 := fun w h => stands_any (c := c3) a ae w (l := js.drop (j + 1)) (A := A3) h (by omega)
      have KS2 := fun w h => stands_any (c := c3) b be w (l := js.drop (j + 1)) (A := A3) h (by omega)
      generalize hd : js.drop (j + 1) = js' at *
      have HJ := Lib.hid hd
      clear hd h2
      have f0 := fr.alloc (.cells #[.int .i64 a, .int .i64 ae, .int .i64 b, .int .i64 be] 30)
      have h1a := h1r.fr ((Fr.refl (fun _ => False) wr).alloc (.cells #[.int .i64 a, .int .i64 ae, .int .i64 b, .int .i64 be] 30)) fun _ _ => id
      have hr3a := hr3.fr ((Fr.refl (fun _ => False) wr).alloc (.cells #[.int .i64 a, .int .i64 ae, .int .i64 b, .int .i64 be] 30)) fun _ _ => id
      have HA := Lib.hid h1r
      have HB := Lib.hid hr3
      have HW := Lib.hid h1
      clear h1 h1r hr3
      cases x1 : (a == b)
      · rw [x1] at hO
        rw [Bool.not_false, Bool.true_and] at hO
        cases x2 : isEndB l a ae
        · rw [x2] at hO KE1
          rw [Bool.false_and, Bool.false_and, Bool.false_and] at hO
          subst hO
          clear x2
          go_wp2_with fail
          refine (KE1 _ h1a).mono ?_
          clear KE1
          rintro x w3 ⟨rfl, rfl⟩
          go_wp2_with fail
          go_ret
          exact ⟨rfl, f0⟩
        · rw [x2] at hO KE1
          rw [Bool.true_and] at hO
          clear x2
          cases x3 : isEndB l b be
          · rw [x3] at hO KE2
            rw [Bool.false_and, Bool.false_and] at hO
            subst hO
            clear x3
            go_wp2_with fail
            refine (KE1 _ h1a).mono ?_
            clear KE1
            rintro x w3 ⟨rfl, rfl⟩
            go_wp2_with fail
            refine (KE2 _ h1a).mono ?_
            clear KE2
            rintro x w3 ⟨rfl, rfl⟩
            go_wp2_with fail
            go_ret
            exact ⟨rfl, f0⟩
          · rw [x3] at hO KE2
            rw [Bool.true_and] at hO
            clear x3
            cases x4 : nextOk js' a ae
            · rw [x4] at hO KS1
              rw [Bool.not_false, Bool.true_and] at hO
              cases x5 : nextOk js' b be
              · rw [x5] at hO KS2
                rw [Bool.not_false, Bool.true_and] at hO
                have HO := Lib.hid hO
                clear hO x4 x5
                go_wp2_with fail
                refine (KE1 _ h1a).mono ?_
                clear KE1
                rintro x w3 ⟨rfl, rfl⟩
                go_wp2_with fail
                refine (KE2 _ h1a).mono ?_
                clear KE2
                rintro x w3 ⟨rfl, rfl⟩
                go_wp2_with fail
                refine (KS1 _ hr3a).mono ?_
                clear KS1
                rintro x w3 ⟨rfl, f3⟩
                have k2 := f3.cell (p := ⟨wr.heap.size, 2, none⟩) (by simp) id
                have k3 := f3.cell (p := ⟨wr.heap.size, 3, none⟩) (by simp) id
                simp [World.cell?_alloc_at] at k2 k3
                have hr3b := hr3a.fr f3 fun _ _ => id
                go_wp2_with fail
                refine (KS2 _ hr3b).mono ?_
                clear KS2
                rintro x w4 ⟨rfl, f4⟩
                go_wp2_with fail
                go_roundw
                case rel => exact ⟨j + 1, by omega, by go_num, by rw [HJ.out]; exact HO.out, fr_nil (fr_nil f0 f3) f4⟩
                case measure => simp [intOf]; omega
              · rw [x5] at hO KS2
                rw [Bool.not_true, Bool.false_and] at hO
                subst hO
                clear x4 x5
                go_wp2_with fail
                refine (KE1 _ h1a).mono ?_
                clear KE1
                rintro x w3 ⟨rfl, rfl⟩
                go_wp2_with fail
                refine (KE2 _ h1a).mono ?_
                clear KE2
                rintro x w3 ⟨rfl, rfl⟩
                go_wp2_with fail
                refine (KS1 _ hr3a).mono ?_
                clear KS1
                rintro x w3 ⟨rfl, f3⟩
                have k2 := f3.cell (p := ⟨wr.heap.size, 2, none⟩) (by simp) id
                have k3 := f3.cell (p := ⟨wr.heap.size, 3, none⟩) (by simp) id
                simp [World.cell?_alloc_at] at k2 k3
                have hr3b := hr3a.fr f3 fun _ _ => id
                go_wp2_with fail
                refine (KS2 _ hr3b).mono ?_
                clear KS2
                rintro x w4 ⟨rfl, f4⟩
                go_wp2_with fail
                go_ret
                exact ⟨rfl, fr_nil (fr_nil f0 f3) f4⟩
            · rw [x4] at hO KS1
              rw [Bool.not_true, Bool.false_and, Bool.false_and] at hO
              subst hO
              clear x4
              go_wp2_with fail
              refine (KE1 _ h1a).mono ?_
              clear KE1
              rintro x w3 ⟨rfl, rfl⟩
              go_wp2_with fail
              refine (KE2 _ h1a).mono ?_
              clear KE2
              rintro x w3 ⟨rfl, rfl⟩
              go_wp2_with fail
              refine (KS1 _ hr3a).mono ?_
              clear KS1
              rintro x w3 ⟨rfl, f3⟩
              go_wp2_with fail
              go_ret
              exact ⟨rfl, fr_nil f0 f3⟩
      · rw [x1] at hO
        rw [Bool.not_true, Bool.false_and, Bool.false_and, Bool.false_and, Bool.false_and] at hO
        subst hO
        go_wp2_with fail
        go_ret
        exact ⟨rfl, f0⟩
    · have hjl : j = js.length := by omega
      subst hjl
      rw [List.drop_length] at hO
      have hO' : true = O := hO
      subst hO'
      clear hO
      go_wp2_with fail
      go_ret
      exact ⟨rfl, fr⟩
end Go.Proofs.Ytgommmaipifpaaa

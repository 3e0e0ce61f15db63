/- Contracts and plain mathematics of earlier stages: Rcheck. -/
import Derived.Test.YtginfnbdnkgjbaaGreatKu
import Derived.Test.YtginfnbdnkgjbaaGreatKa
namespace Go.Proofs.YtginfnbdnkgjbaaGreat
open Go.RowKit

theorem lineIn_take {l : List Sec} {j k : Nat} (hk : k < j) (hj : j ≤ l.length) (ln : Int) : lineIn ln ((l.take j).drop k) = ((l[k]'(by omega)).line == ln || lineIn ln ((l.take j).drop (k + 1))) := by
  rw [List.drop_eq_getElem_cons (by rw [List.length_take]; omega), lineIn, List.getElem_take]
theorem take_snoc' {l : List Sec} {j : Nat} (hj : j < l.length) : l.take j ++ [l[j]] = l.take (j + 1) := by
  rw [List.take_succ_eq_append_getElem hj]
theorem size_tests {l : List Sec} {js : List Jo} : (sizesB l js = true ∧ 1 ≤ l.length ∧ l.length ≤ 16 ∧ js.length ≤ 24) ∨ (sizesB l js = false ∧ l.length < 1) ∨ (sizesB l js = false ∧ 1 ≤ l.length ∧ 16 < l.length) ∨ (sizesB l js = false ∧ 1 ≤ l.length ∧ l.length ≤ 16 ∧ 24 < js.length) := by
  unfold sizesB
  by_cases h1 : 1 ≤ l.length
  · by_cases h2 : l.length ≤ 16
    · by_cases h3 : js.length ≤ 24
      · exact .inl ⟨by simp [h1, h2, h3], h1, h2, h3⟩
      · exact .inr (.inr (.inr ⟨by simp [h3], h1, h2, by omega⟩))
    · exact .inr (.inr (.inl ⟨by simp [h2], h1, by omega⟩))
  · exact .inr (.inl ⟨by simp; omega, by omega⟩)

set_option maxRecDepth 100000 in
set_option maxHeartbeats 16000000 in
theorem rcheck_any {A1 A2 : Option Addr} {c1 c2 : Nat} {l : List Sec} {js : List Jo} (w : World) (h1 : Rd w A1 (cellsS l)) (h2 : Rd w A2 (cellsJ js)) (hl : l.length ≤ 9223372036854775807) (hj : js.length ≤ 9223372036854775807) :
    Calls Tryz.prog 59 #[.slice A1 l.length c1, .slice A2 js.length c2] w fun x w' => x = .returned (.int .i64 (errOf (rcheckB l js))) ∧ Fr (fun _ => False) w w' := by
  unfold rcheckB
  have e6 : errOf false = 6 := rfl
  have e0 : errOf true = 0 := rfl
  rcases size_tests (l := l) (js := js) with ⟨hs, s1, s2, s3⟩ | ⟨hs, s1⟩ | ⟨hs, s1, s2⟩ | ⟨hs, s1, s2, s3⟩
  · rw [hs, Bool.true_and]
    have KCN := fun s e w h => count_any (c := c2) s e w (l := js) (A := A2) h (by omega)
    have KEN := fun k w => rends_any k w
    generalize hR : js.all (rjoB l js) = R
    have HR := Lib.hid hR
    generalize hT : errOf (rsecsB js 0 [] l && R) = T
    have HT := Lib.hid hT
    clear hR hT hs
    clear e6 e0
    go_enter Tryz.func59, Tryz.ntmps59
    go_wp2_with fail
    go_loopw [25] (fun t wr => ∃ j : Nat, j ≤ l.length ∧ t = .int .i64 (j : Nat) ∧ errOf (rsecsB js j (l.take j) (l.drop j) && R) = T ∧ Fr (fun _ => False) w wr) (fun t _ => l.length - (intOf t).toNat)
    case atStart => exact ⟨0, Nat.zero_le _, rfl, HT.out, Fr.refl _ _⟩
    case round =>
      clear HT
      obtain ⟨j, hjl, rfl, hT, fr⟩ := hrel
      by_cases hlt : j < l.length
      · obtain ⟨g, o, rfl, d0, d1, d2⟩ := rd_sec (h1.fr fr fun _ _ => id) hlt
        rw [List.drop_eq_getElem_cons hlt, rsecsB, take_snoc' hlt, rsecB] at hT
        generalize l[j] = v at *
        have ht := sec_tests v
        have KE := KEN v.kind
        generalize secOkB v = x at *
        obtain ⟨k, oc, ln⟩ := v
        simp only at *
        generalize endsM k = n at *
        have f1 := fr.alloc (.cells #[.int .i64 k, .int .i64 oc, .int .i64 ln] 80)
        have is1 := Is.new wr 80 #[.int .i64 k, .int .i64 oc, .int .i64 ln]
        rcases ht with ⟨rfl, t1, t2, t3, t4, t5⟩ | ⟨rfl, t1⟩ | ⟨rfl, t1, t2⟩ | ⟨rfl, t1, t2, t3⟩ | ⟨rfl, t1, t2, t3, t4⟩ | ⟨rfl, t1, t2, t3, t4, t5⟩
        · rw [Bool.true_and] at hT
          cases y1 : (ln == 0)
          · rw [y1, Bool.false_or] at hT
            cases y2 : (k == 0)
            · rw [y2, Bool.false_and, Bool.false_and, Bool.false_and, Bool.false_and] at hT
              have hT' : 6 = T := hT
              subst hT'
              have y3 : (k != 0) = true := by simpa using y2
              clear hT
              go_wp2_with fail
              refine (KE _).mono ?_
              clear KE
              rintro x w3 ⟨rfl, f3⟩
              have is3 := is1.fr f3 id
              have g3 := fr_nil f1 f3
              have q0 := is3.cell 0
              have q1 := is3.cell 1
              have q2 := is3.cell 2
              go_wp2_with fail
              go_ret
              exact ⟨rfl, g3⟩
            · rw [y2, Bool.true_and] at hT
              have y3 : (k != 0) = false := by simpa using y2
              have KC := KCN (j : Nat) 1
              cases y4 : (countM js (j : Nat) 1 == 0)
              · rw [y4, Bool.false_and, Bool.false_and, Bool.false_and] at hT
                have hT' : 6 = T := hT
                subst hT'
                have y5 : 0 < countM js (j : Nat) 1 := by
                  have : countM js (j : Nat) 1 ≠ 0 := by simpa using y4
                  omega
                generalize countM js (j : Nat) 1 = cnt at *
                clear hT y4
                go_wp2_with fail
                refine (KE _).mono ?_
                clear KE
                rintro x w3 ⟨rfl, f3⟩
                have is3 := is1.fr f3 id
                have g3 := fr_nil f1 f3
                have q0 := is3.cell 0
                have q1 := is3.cell 1
                have q2 := is3.cell 2
                have r3 := h2.fr g3 fun _ _ => id
                go_wp2_with fail
                refine (KC _ r3).mono ?_
                clear KC
                rintro x w4 ⟨rfl, f4⟩
                go_wp2_with fail
                go_ret
                exact ⟨rfl, fr_nil g3 f4⟩
              · rw [y4, Bool.true_and] at hT
                have y5 : countM js (j : Nat) 1 = 0 := by simpa using y4
                rw [y5] at KC
                clear y4 y5
                generalize hX : lineIn ln (l.take j) = X at *
                have HX := Lib.hid hX
                have HT := Lib.hid hT
                clear hX hT
                go_wp2_with fail
                refine (KE _).mono ?_
                clear KE
                rintro x w3 ⟨rfl, f3⟩
                have is3 := is1.fr f3 id
                have g3 := fr_nil f1 f3
                have q0 := is3.cell 0
                have q1 := is3.cell 1
                have q2 := is3.cell 2
                have r3 := h2.fr g3 fun _ _ => id
                go_wp2_with fail
                refine (KC _ r3).mono ?_
                clear KC
                rintro x w4 ⟨rfl, f4⟩
                have is4 := is3.fr f4 id
                have g4 := fr_nil g3 f4
                clear q0 q1 q2 is3 is1 f1 f3 f4 g3 fr d0 d1 d2
                go_wp2_with fail
                go_loopw [7] (fun t wi => ∃ i : Nat, i ≤ j ∧ t = .int .i64 (i : Nat) ∧ lineIn ln ((l.take j).drop i) = X ∧ Fr (fun _ => False) w4 wi) (fun t _ => j - (intOf t).toNat)
                case atStart => exact ⟨0, Nat.zero_le _, rfl, HX.out, Fr.refl _ _⟩
                case round =>
                  clear HX
                  obtain ⟨i, hi, rfl, hX, fi⟩ := hrel
                  have isi := is4.fr fi id
                  have q2 := isi.cell 2
                  by_cases hlt2 : i < j
                  · obtain ⟨ga, oa, ea, x0, x1, x2⟩ := rd_sec (h1.fr (fr_nil g4 fi) fun _ _ => id) (show i < l.length by omega)
                    injection ea with ea
                    injection ea with ea1 ea2
                    subst ea1 ea2
                    rw [lineIn_take hlt2 (by omega)] at hX
                    generalize l[i] = u at *
                    obtain ⟨ua, ub, uc⟩ := u
                    simp only at *
                    have i1 : (0 : Int) ≤ (i : Int) := by omega
                    have i2 : (i : Int) < (l.length : Int) := by omega
                    cases y6 : (uc == ln)
                    · rw [y6, Bool.false_or] at hX
                      have HX := Lib.hid hX
                      clear hX
                      go_wp2_with fail
                      go_quiet (fail)
                      go_wp2_with fail
                      go_roundw
                      case rel => exact ⟨i + 1, by omega, by go_num, HX.out, fi.drewN nq⟩
                      case measure => simp [intOf]; omega
                    · rw [y6, Bool.true_or] at hX
                      subst hX
                      have hT := HT.out
                      rw [Bool.not_true, Bool.false_and, Bool.false_and] at hT
                      have hT' : 6 = T := hT
                      subst hT'
                      clear hT HT
                      go_wp2_with fail
                      go_quiet (fail)
                      go_wp2_with fail
                      go_ret
                      exact ⟨rfl, (fr_nil g4 fi).drewN nq⟩
                  · have hij : i = j := by omega
                    have hX' : false = X := by
                      rw [← hX, hij, List.drop_of_length_le (by rw [List.length_take]; omega)]
                      rfl
                    subst hX'
                    have hT := HT.out
                    rw [Bool.not_false, Bool.true_and] at hT
                    have HT1 := Lib.hid hT
                    clear hT HT hX
                    go_wp2_with fail
                    go_roundw
                    case rel => exact ⟨j + 1, by omega, by go_num, HT1.out, fr_nil g4 fi⟩
                    case measure => simp [intOf]; omega
          · rw [y1, Bool.true_or, Bool.true_and] at hT
            have HT := Lib.hid hT
            clear hT
            go_wp2_with fail
            refine (KE _).mono ?_
            clear KE
            rintro x w3 ⟨rfl, f3⟩
            have is3 := is1.fr f3 id
            have g3 := fr_nil f1 f3
            have q0 := is3.cell 0
            have q1 := is3.cell 1
            have q2 := is3.cell 2
            go_wp2_with fail
            go_roundw
            case rel => exact ⟨j + 1, by omega, by go_num, HT.out, g3⟩
            case measure => simp [intOf]; omega
        all_goals
          rw [Bool.false_and, Bool.false_and, Bool.false_and] at hT
          have hT' : 6 = T := hT
          subst hT'
          clear hT
          go_wp2_with fail
          refine (KE _).mono ?_
          clear KE
          rintro x w3 ⟨rfl, f3⟩
          have is3 := is1.fr f3 id
          have q0 := is3.cell 0
          have q1 := is3.cell 1
          have q2 := is3.cell 2
          go_wp2_with fail
          go_ret
          exact ⟨rfl, fr_nil f1 f3⟩
      · have hjl : j = l.length := by omega
        subst hjl
        rw [List.drop_length] at hT
        rw [rsecsB, Bool.true_and] at hT
        have HT := Lib.hid hT
        clear hT
        have g1 := fr
        clear fr
        obtain ⟨wz, rfl⟩ : ∃ wz : World, wz = wr := ⟨_, rfl⟩
        go_wp2_with fail
        go_loopw [82] (fun t wi => ∃ i : Nat, i ≤ js.length ∧ t = .int .i64 (i : Nat) ∧ errOf ((js.drop i).all (rjoB l js)) = T ∧ Fr (fun _ => False) wz wi) (fun t _ => js.length - (intOf t).toNat)
        case atStart => exact ⟨0, Nat.zero_le _, rfl, by rw [List.drop_zero, HR.out]; exact HT.out, Fr.refl _ _⟩
        case round =>
          clear HT HR
          obtain ⟨i, hi, rfl, hT, fi⟩ := hrel
          by_cases hlt2 : i < js.length
          · obtain ⟨g, o, rfl, d0, d1, d2, d3⟩ := rd_jo (h2.fr (fr_nil g1 fi) fun _ _ => id) hlt2
            rw [List.drop_eq_getElem_cons hlt2, List.all_cons] at hT
            have HV : rjoB l js js[i] = (joOkB l js[i] && (decide (countM js js[i].a js[i].ae ≤ 1) && decide (countM js js[i].b js[i].be ≤ 1))) := rfl
            generalize js[i] = v at *
            obtain ⟨va, vae, vb, vbe⟩ := v
            unfold joOkB at HV
            simp only at *
            have g2 := fr_nil g1 fi
            obtain ⟨wo, hwo⟩ : ∃ wo : World, wo = wr.alloc (.cells #[.int .i64 va, .int .i64 vae, .int .i64 vb, .int .i64 vbe] 150) := ⟨_, rfl⟩
            have hb : ∃ b, wr.heap.size = b := ⟨_, rfl⟩
            have iso : Is wo wr.heap.size 150 #[.int .i64 va, .int .i64 vae, .int .i64 vb, .int .i64 vbe] := by rw [hwo]; exact Is.new _ _ _
            have fo : Fr (fun _ => False) wz wo := by rw [hwo]; exact fi.alloc _
            have HWO := Lib.hid hwo
            clear hwo hb
            cases xa : isSecB l.length va
            · have hf : rjoB l js ⟨va, vae, vb, vbe⟩ = false := by rw [HV]; unfold isEndB; rw [xa]; simp
              rw [hf, Bool.false_and] at hT
              have hT' : 6 = T := hT
              subst hT'
              clear hT hf HV
              rcases isSecB_false xa with ha | ha
              all_goals
                clear xa
                go_wp2_with fail
                go_ret
                exact ⟨rfl, g2.alloc _⟩
            · obtain ⟨ka, rfl, hka⟩ := isSecB_true xa
              cases xb : isSecB l.length vb
              · have hf : rjoB l js ⟨(ka : Nat), vae, vb, vbe⟩ = false := by rw [HV]; unfold isEndB; rw [xa, xb]; simp
                rw [hf, Bool.false_and] at hT
                have hT' : 6 = T := hT
                subst hT'
                clear hT hf HV xa
                rcases isSecB_false xb with ha | ha
                all_goals
                  clear xb
                  go_wp2_with fail
                  go_ret
                  exact ⟨rfl, g2.alloc _⟩
              · obtain ⟨kb, rfl, hkb⟩ := isSecB_true xb
                cases xe : ((ka : Int) == (kb : Int))
                · have hd : (l.length : Int) ≤ 9223372036854775807 := by omega
                  have gz := fr_nil g1 fo
                  obtain ⟨gs, os, rfl, s0, _, _⟩ := rd_sec (h1.fr gz fun _ _ => id) hka
                  obtain ⟨gs2, os2, es, s1, _, _⟩ := rd_sec (h1.fr gz fun _ _ => id) hkb
                  injection es with es
                  injection es with es1 es2
                  subst es1 es2
                  rw [← kindOf_at hka] at s0
                  rw [← kindOf_at hkb] at s1
                  have rj := h2.fr gz fun _ _ => id
                  have HV2 : rjoB l js ⟨(ka : Nat), vae, (kb : Nat), vbe⟩ = ((decide (0 ≤ vae) && decide (vae < endsM (kindOf l ka))) && (decide (0 ≤ vbe) && decide (vbe < endsM (kindOf l kb))) && (decide (countM js ka vae ≤ 1) && decide (countM js kb vbe ≤ 1))) := by
                    rw [HV, xe]
                    unfold isEndB
                    rw [isSecB_nat hka, isSecB_nat hkb, Int.toNat_natCast, Int.toNat_natCast]
                    simp
                  have KA := KEN (kindOf l ka)
                  have KB := KEN (kindOf l kb)
                  have C1 := KCN (ka : Nat) vae
                  have C2 := KCN (kb : Nat) vbe
                  generalize kindOf l ka = k1 at *
                  generalize kindOf l kb = k2 at *
                  generalize endsM k1 = n1 at *
                  generalize endsM k2 = n2 at *
                  generalize countM js ka vae = m1 at *
                  generalize countM js kb vbe = m2 at *
                  have i1 : (0 : Int) ≤ (ka : Int) := by omega
                  have i2 : (ka : Int) < (l.length : Int) := by omega
                  have i3 : (0 : Int) ≤ (kb : Int) := by omega
                  have i4 : (kb : Int) < (l.length : Int) := by omega
                  rw [HV2] at hT
                  clear HV HV2 xa xb fi g2 h1
                  go_wp2_with fail
                  rw [← HWO.out]
                  have x0 := cell_fro (iso.cell 0)
                  have x1 := cell_fro (iso.cell 1)
                  have x2 := cell_fro (iso.cell 2)
                  have x3 := cell_fro (iso.cell 3)
                  have s0 := cell_fro s0
                  have s1 := cell_fro s1
                  have rj := rd_fro rj
                  refine region_fro (by kernel_rfl) (by kernel_rfl) ?_
                  by_cases y1 : 0 ≤ vae
                  · have d1' : decide (vae < 0) = false := by simp; omega
                    by_cases y2 : vae < n1
                    · have d2' : decide (n1 ≤ vae) = false := by simp; omega
                      by_cases y3 : 0 ≤ vbe
                      · have d3' : decide (vbe < 0) = false := by simp; omega
                        by_cases y4 : vbe < n2
                        · have d4' : decide (n2 ≤ vbe) = false := by simp; omega
                          by_cases y5 : m1 ≤ 1
                          · have d5' : decide (1 < (m1 : Int)) = false := by simp; omega
                            by_cases y6 : m2 ≤ 1
                            · have d6' : decide (1 < (m2 : Int)) = false := by simp; omega
                              have hT' : errOf ((js.drop (i + 1)).all (rjoB l js)) = T := by
                                rw [← hT, show decide (0 ≤ vae) = true by simp [y1], show decide (vae < n1) = true by simp [y2], show decide (0 ≤ vbe) = true by simp [y3], show decide (vbe < n2) = true by simp [y4], show decide (m1 ≤ 1) = true by simp [y5], show decide (m2 ≤ 1) = true by simp [y6]]
                                simp
                              have HT := Lib.hid hT'
                              clear hT hT'
                              clear y1 y2 y3 y4 y5 y6
                              repeat (go_big_quiet_step (first | (go_at_call 127; first | (with_reducible exact call_fro (KA _)) | (with_reducible exact call_fro (KB _))) | (go_at_call 128; first | (with_reducible exact call_fro (C1 _ (rj _))) | (with_reducible exact call_fro (C2 _ (rj _))))))
                              refine wpQuiet_nil ?_
                              rintro _ ⟨⟨w4, f4⟩, rfl⟩
                              go_wp2_with fail
                              go_roundw
                              case rel => exact ⟨i + 1, by omega, by go_num, HT.out, fr_nil fo f4⟩
                              case measure => simp [intOf]; omega
                            · have d6' : decide (1 < (m2 : Int)) = true := by simp; omega
                              have hT' : 6 = T := by rw [← hT, show decide (m2 ≤ 1) = false by simp; omega]; simp [errOf]
                              subst hT'
                              clear hT
                              clear y1 y2 y3 y4 y5 y6
                              repeat (go_big_quiet_step (first | (go_at_call 127; first | (with_reducible exact call_fro (KA _)) | (with_reducible exact call_fro (KB _))) | (go_at_call 128; first | (with_reducible exact call_fro (C1 _ (rj _))) | (with_reducible exact call_fro (C2 _ (rj _))))))
                              refine wpQuiet_nil ?_
                              rintro _ ⟨⟨w4, f4⟩, rfl⟩
                              go_wp2_with fail
                              go_ret
                              exact ⟨rfl, fr_nil gz f4⟩
                          · have d5' : decide (1 < (m1 : Int)) = true := by simp; omega
                            have hT' : 6 = T := by rw [← hT, show decide (m1 ≤ 1) = false by simp; omega]; simp [errOf]
                            subst hT'
                            clear hT
                            clear y1 y2 y3 y4 y5
                            repeat (go_big_quiet_step (first | (go_at_call 127; first | (with_reducible exact call_fro (KA _)) | (with_reducible exact call_fro (KB _))) | (go_at_call 128; first | (with_reducible exact call_fro (C1 _ (rj _))) | (with_reducible exact call_fro (C2 _ (rj _))))))
                            refine wpQuiet_nil ?_
                            rintro _ ⟨⟨w4, f4⟩, rfl⟩
                            go_wp2_with fail
                            go_ret
                            exact ⟨rfl, fr_nil gz f4⟩
                        · have d4' : decide (n2 ≤ vbe) = true := by simp; omega
                          have hT' : 6 = T := by rw [← hT, show decide (vbe < n2) = false by simp; omega]; simp [errOf]
                          subst hT'
                          clear hT
                          clear y1 y2 y3 y4
                          repeat (go_big_quiet_step (first | (go_at_call 127; first | (with_reducible exact call_fro (KA _)) | (with_reducible exact call_fro (KB _))) | (go_at_call 128; first | (with_reducible exact call_fro (C1 _ (rj _))) | (with_reducible exact call_fro (C2 _ (rj _))))))
                          refine wpQuiet_nil ?_
                          rintro _ ⟨⟨w4, f4⟩, rfl⟩
                          go_wp2_with fail
                          go_ret
                          exact ⟨rfl, fr_nil gz f4⟩
                      · have d3' : decide (vbe < 0) = true := by simp; omega
                        have hT' : 6 = T := by rw [← hT, show decide (0 ≤ vbe) = false by simp; omega]; simp [errOf]
                        subst hT'
                        clear hT
                        clear y1 y2 y3
                        repeat (go_big_quiet_step (first | (go_at_call 127; first | (with_reducible exact call_fro (KA _)) | (with_reducible exact call_fro (KB _))) | (go_at_call 128; first | (with_reducible exact call_fro (C1 _ (rj _))) | (with_reducible exact call_fro (C2 _ (rj _))))))
                        refine wpQuiet_nil ?_
                        rintro _ ⟨⟨w4, f4⟩, rfl⟩
                        go_wp2_with fail
                        go_ret
                        exact ⟨rfl, fr_nil gz f4⟩
                    · have d2' : decide (n1 ≤ vae) = true := by simp; omega
                      have hT' : 6 = T := by rw [← hT, show decide (vae < n1) = false by simp; omega]; simp [errOf]
                      subst hT'
                      clear hT
                      clear y1 y2
                      repeat (go_big_quiet_step (first | (go_at_call 127; first | (with_reducible exact call_fro (KA _)) | (with_reducible exact call_fro (KB _))) | (go_at_call 128; first | (with_reducible exact call_fro (C1 _ (rj _))) | (with_reducible exact call_fro (C2 _ (rj _))))))
                      refine wpQuiet_nil ?_
                      rintro _ ⟨⟨w4, f4⟩, rfl⟩
                      go_wp2_with fail
                      go_ret
                      exact ⟨rfl, fr_nil gz f4⟩
                  · have d1' : decide (vae < 0) = true := by simp; omega
                    have hT' : 6 = T := by rw [← hT, show decide (0 ≤ vae) = false by simp; omega]; simp [errOf]
                    subst hT'
                    clear hT
                    clear y1
                    repeat (go_big_quiet_step (first | (go_at_call 127; first | (with_reducible exact call_fro (KA _)) | (with_reducible exact call_fro (KB _))) | (go_at_call 128; first | (with_reducible exact call_fro (C1 _ (rj _))) | (with_reducible exact call_fro (C2 _ (rj _))))))
                    refine wpQuiet_nil ?_
                    rintro _ ⟨⟨w4, f4⟩, rfl⟩
                    go_wp2_with fail
                    go_ret
                    exact ⟨rfl, fr_nil gz f4⟩
                · have hf : rjoB l js ⟨(ka : Nat), vae, (kb : Nat), vbe⟩ = false := by rw [HV, xe]; simp
                  rw [hf, Bool.false_and] at hT
                  have hT' : 6 = T := hT
                  subst hT'
                  clear hT hf HV xa xb
                  go_wp2_with fail
                  go_ret
                  exact ⟨rfl, g2.alloc _⟩
          · have hij : i = js.length := by omega
            subst hij
            rw [List.drop_length] at hT
            have hT' : 0 = T := hT
            subst hT'
            clear hT
            go_wp2_with fail
            go_ret
            exact ⟨rfl, fr_nil g1 fi⟩
  all_goals
    rw [hs, Bool.false_and, e6]
    clear hs e6 e0
    go_enter Tryz.func59, Tryz.ntmps59
    go_wp2_with fail
    go_ret
    exact ⟨rfl, Fr.refl _ _⟩
end Go.Proofs.YtginfnbdnkgjbaaGreat


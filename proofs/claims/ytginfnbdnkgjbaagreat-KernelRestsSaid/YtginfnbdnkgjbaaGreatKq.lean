/- Contracts and plain mathematics of earlier stages: Rov. -/
import Derived.Test.YtginfnbdnkgjbaaGreatKl
import Derived.Test.YtginfnbdnkgjbaaGreatKf
import Derived.Deep.CutRange
namespace Go.Proofs.YtginfnbdnkgjbaaGreat
open Go.RowKit

theorem rnone (w w' : World) (f : Fr (fun _ => False) w w') : ∃ A c, (Ending.returned (.slice none 0 0)) = .returned (.slice A ([] : List Int).length c) ∧ w'.ownsRow w.heap.size 3 1 (.slice A ([] : List Int).length c) ([] : List Int).length (([] : List Int).map (Value.int .i64)) ∧ Fr (fun _ => False) w w' :=
  ⟨none, 0, rfl, World.ownsRow_nil _ _ _ _, f⟩

set_option maxRecDepth 100000 in
set_option maxHeartbeats 8000000 in
theorem roverlap_any (C : Cm) (r : Ro) (w : World) (h : C.Ok w) (hr : r.Ok w) :
    Calls Tryz.prog 67 #[C.val, r.val] w (Nums w (overM C.l C.js C.sg r.rt)) := by
  have f0 := ((Fr.refl (fun _ => False) w).alloc (.cells C.arr 30)).alloc (.cells r.cells.toArray 74)
  have isC := (Is.new w 30 C.arr).alloc (.cells r.cells.toArray 74)
  have isr := Is.new (w.alloc (.cells C.arr 30)) 74 r.cells.toArray
  have hrb : (w.alloc (.cells C.arr 30)).heap.size = w.heap.size + 1 := by simp
  rw [hrb] at isr
  have hb1 := hr.b1
  have hb3 := h.b3
  have hb2 := h.b2
  have hdef : overM C.l C.js C.sg r.rt = if roverOk C.l C.js C.sg r.rt = true then [nextS C.js (sgAt C.sg r.exit).sec (sgAt C.sg r.exit).fin] else [] := by
    unfold overM
    rw [over_ref]
    rfl
  rw [hdef]
  clear hdef
  unfold roverOk
  have e1 : r.rt.shunt = r.shunt := rfl
  have e2 : r.rt.exit = r.exit := rfl
  have e3 : r.rt.entry = r.entry := rfl
  have e4 : r.rt.path = r.path := rfl
  rw [e1, e2, e3, e4]
  clear e1 e2 e3 e4
  unfold Ro.cells at f0 isC isr
  unfold Cm.arr at f0 isC isr
  unfold Cm.val Ro.val Cm.arr
  obtain ⟨r0, r1, r2, r3, r4, r5⟩ := ro_cells isr
  cases hsh : r.shunt
  rotate_left
  · rw [hsh] at f0 isC isr r5
    rw [Bool.not_true, Bool.false_and, if_neg (by decide)]
    clear hsh
    go_enter Tryz.func67, Tryz.ntmps67
    go_wp2_with fail
    go_ret
    exact rnone _ _ f0
  rw [hsh] at f0 isC isr r0 r1 r2 r3 r4 r5
  rw [Bool.not_false, Bool.true_and]
  clear hsh
  generalize hT : (if (isSecB C.sg.length r.exit && _) = true then _ else _) = T
  have HT := Lib.hid hT
  clear hT
  have HS : Hid (∀ W, Fr (fun _ => False) ((w.alloc (.cells #[.slice C.A1 C.l.length C.c1, .slice C.A2 C.js.length C.c2, .slice C.A3 C.sg.length C.c3, .slice C.A4 C.cr.length C.c4, .slice C.A5 C.rs.length C.c5, .int .i64 C.tm.age, .int .i64 C.tm.brake, .int .i64 C.tm.hold, .int .i64 C.tm.budget] 30)).alloc (.cells #[.int .i64 r.entry, .int .i64 r.exit, .slice r.a1 r.path.length r.c1, .slice r.a2 r.flank.length r.c2, .slice r.a3 r.over.length r.c3, .bool false] 74)) W → W.cell? ⟨w.heap.size, 0, none⟩ = some (.slice C.A1 C.l.length C.c1) ∧ W.cell? ⟨w.heap.size, 1, none⟩ = some (.slice C.A2 C.js.length C.c2) ∧ W.cell? ⟨w.heap.size, 2, none⟩ = some (.slice C.A3 C.sg.length C.c3) ∧
      W.cell? ⟨w.heap.size + 1, 0, none⟩ = some (.int .i64 r.entry) ∧ W.cell? ⟨w.heap.size + 1, 1, none⟩ = some (.int .i64 r.exit) ∧ W.cell? ⟨w.heap.size + 1, 2, none⟩ = some (.slice r.a1 r.path.length r.c1)) := Lib.hid fun W fw =>
    ⟨(isC.fr fw id).cell 0, (isC.fr fw id).cell 1, (isC.fr fw id).cell 2, (isr.fr fw id).cell 0, (isr.fr fw id).cell 1, (isr.fr fw id).cell 2⟩
  have HF0 := Lib.hid f0
  obtain ⟨c0, c1, c2, -, -, -⟩ := HS.out _ (Fr.refl _ _)
  go_enter Tryz.func67, Tryz.ntmps67
  go_upto_region 1 with (fail)
  generalize hw0 : (w.alloc (.cells #[.slice C.A1 C.l.length C.c1, .slice C.A2 C.js.length C.c2, .slice C.A3 C.sg.length C.c3, .slice C.A4 C.cr.length C.c4, .slice C.A5 C.rs.length C.c5, .int .i64 C.tm.age, .int .i64 C.tm.brake, .int .i64 C.tm.hold, .int .i64 C.tm.budget] 30)).alloc (.cells #[.int .i64 r.entry, .int .i64 r.exit, .slice r.a1 r.path.length r.c1, .slice r.a2 r.flank.length r.c2, .slice r.a3 r.over.length r.c3, .bool false] 74) = w0 at *
  clear hw0 isC isr r3 r4 f0
  cases hex : isSecB C.sg.length r.exit
  · obtain rfl : [] = T := by rw [← HT.out, hex, Bool.false_and, if_neg (by decide)]
    rcases not_sec hex with hn | ⟨j, hj, hle⟩
    · have d0 : decide (r.exit < 0) = true := by simpa using hn
      clear hex
      go_wp2_with fail
      go_ret
      exact rnone _ _ HF0.out
    · have d0 : decide ((j : Int) < 0) = false := by rw [decide_eq_false_iff_not]; omega
      have d1 : decide (C.sg.length ≤ j) = true := by simpa using hle
      have d2 : decide ((C.sg.length : Int) ≤ (j : Int)) = true := by rw [decide_eq_true_eq]; omega
      rw [hj] at r1
      clear hex
      go_wp2_with fail
      go_ret
      exact rnone _ _ HF0.out
  obtain ⟨e, he, hel⟩ := isSecB_true hex
  have hT := HT.out
  rw [hex, Bool.true_and, he, sgAt_nat hel] at hT
  clear HT
  rw [he] at r1
  obtain ⟨gs, og, hA3, s0, s1⟩ := rd_sg (h.sigs.fr HF0.out fun _ _ => id) hel
  generalize C.sg[e] = g at *
  have HT := Lib.hid hT
  clear hT
  have KN := fun W (f : Fr (fun _ => False) w W) => rnext_any (c := C.c2) g.sec g.fin W (h.jos.fr f fun _ _ => id) (by omega)
  have d0 : decide ((e : Int) < 0) = false := by rw [decide_eq_false_iff_not]; omega
  have d1 : decide (C.sg.length ≤ e) = false := by rw [decide_eq_false_iff_not]; omega
  have d2 : decide ((C.sg.length : Int) ≤ (e : Int)) = false := by rw [decide_eq_false_iff_not]; omega
  have i1 : (0 : Int) ≤ (e : Int) := by omega
  have i2 : (e : Int) < (C.sg.length : Int) := by omega
  have HA3 := Lib.hid hA3
  rw [hA3] at c2
  clear hA3 he hex
  go_upto_region 4 with (fail)
  have fx := (Fr.refl (fun _ => False) w0).alloc (.cells #[.int .i64 g.sec, .int .i64 g.fin] 152)
  have isx := Is.new w0 152 #[.int .i64 g.sec, .int .i64 g.fin]
  clear c0 c1 c2 r0 r1 r2 r5 s0 s1 d0 d1 d2 i1 i2
  generalize w0.alloc _ = w3 at *
  generalize w0.heap.size = xb at *
  obtain ⟨-, c1, -, -, -, -⟩ := HS.out _ fx
  have x0 : w3.cell? ⟨xb, 0, none⟩ = some (.int .i64 g.sec) := isx.cell 0
  have x1 : w3.cell? ⟨xb, 1, none⟩ = some (.int .i64 g.fin) := isx.cell 1
  go_wp2_with fail
  refine (KN _ (fr_nil HF0.out fx)).mono ?_
  clear KN c1 x0 x1 isx
  rintro _ w4 ⟨rfl, f4⟩
  have F4 := fr_nil fx f4
  clear fx f4
  go_upto_region 6 with (fail)
  go_cut [52] from 42 to 53 (fun v52 wx => v52 = .bool (isSecB C.sg.length r.entry) ∧ wx = w4)
  case first =>
    obtain ⟨-, -, c2, r0, -, -⟩ := HS.out _ F4
    cases hen : isSecB C.sg.length r.entry
    · rcases not_sec hen with hn | ⟨j, hj, hle⟩
      · have d0 : decide (0 ≤ r.entry) = false := by rw [decide_eq_false_iff_not]; omega
        have HEN := Lib.hid hen
        clear hen
        go_wp2_with fail
        go_meet
        exact ⟨by rw [HEN.out], rfl⟩
      · have d0 : decide ((0 : Int) ≤ (j : Int)) = true := by rw [decide_eq_true_eq]; omega
        have d1 : decide (j < C.sg.length) = false := by rw [decide_eq_false_iff_not]; omega
        have d2 : decide ((j : Int) < (C.sg.length : Int)) = false := by rw [decide_eq_false_iff_not]; omega
        rw [hj] at r0
        have HEN := Lib.hid hen
        clear hen hj
        go_wp2_with fail
        go_meet
        exact ⟨by rw [HEN.out], rfl⟩
    · obtain ⟨j, hj, hjl⟩ := isSecB_true hen
      rw [hj] at r0
      have d0 : decide ((0 : Int) ≤ (j : Int)) = true := by rw [decide_eq_true_eq]; omega
      have d1 : decide (j < C.sg.length) = true := by rw [decide_eq_true_eq]; omega
      have d2 : decide ((j : Int) < (C.sg.length : Int)) = true := by rw [decide_eq_true_eq]; omega
      have HEN := Lib.hid hen
      clear hen hj
      go_wp2_with fail
      go_meet
      exact ⟨by rw [HEN.out], rfl⟩
  case rest =>
    obtain ⟨rfl, rfl⟩ := hcut
    generalize hen0 : isSecB C.sg.length r.entry = bb at *
    have HEN := Lib.hid hen0
    clear hen0
    go_upto_if 52 with (fail)
    go_cut [9] from 53 to 60 (fun v9 wx => v9 = .int .i64 (apM C.sg r.entry) ∧ wx = wc)
    case first =>
      obtain ⟨-, -, c2, r0, -, -⟩ := HS.out _ F4
      cases bb
      · have hen := HEN.out
        have hap : apM C.sg r.entry = -1 := by unfold apM; rw [hen, if_neg (by decide)]
        have HAP := Lib.hid hap
        clear hap hen
        go_wp2_with fail
        go_meet
        exact ⟨by rw [HAP.out], rfl⟩
      · have hen := HEN.out
        have hap : apM C.sg r.entry = (sgAt C.sg r.entry).sec := by unfold apM; rw [hen, if_pos rfl]
        obtain ⟨j, hj, hjl⟩ := isSecB_true hen
        have hap2 : apM C.sg r.entry = C.sg[j].sec := by rw [hap, hj, sgAt_nat hjl]
        obtain ⟨gt, ot, hA3, t0, -⟩ := rd_sg (h.sigs.fr (fr_nil HF0.out F4) fun _ _ => id) hjl
        generalize C.sg[j].sec = sc at *
        rw [hj] at r0
        rw [hA3] at c2
        have i1 : (0 : Int) ≤ (j : Int) := by omega
        have i2 : (j : Int) < (C.sg.length : Int) := by omega
        have HAP := Lib.hid hap2
        clear hap hj hA3 hap2 hen
        go_wp2_with fail
        go_meet
        exact ⟨by rw [HAP.out], rfl⟩
    case rest =>
      obtain ⟨rfl, rfl⟩ := hcut
      generalize apM C.sg r.entry = ap at *
      have FW := fr_nil HF0.out F4
      obtain ⟨c0, -, -, -, -, r2⟩ := HS.out _ F4
      have hT := HT.out
      clear HT
      generalize nextS C.js g.sec g.fin = q at *
      cases hok : nextOk C.js g.sec g.fin
      · obtain rfl : [] = T := by rw [← hT, hok]; rfl
        clear hok
        go_wp2_with fail
        go_ret
        exact rnone _ _ FW
      rw [hok, Bool.true_and] at hT
      clear hok
      cases hq : isSecB C.l.length q
      · obtain rfl : [] = T := by rw [← hT, hq]; rfl
        rcases not_sec hq with hn | ⟨j, hj, hle⟩
        · have d0 : decide (q < 0) = true := by simpa using hn
          clear hq
          go_wp2_with fail
          go_ret
          exact rnone _ _ FW
        · subst hj
          have d0 : decide ((j : Int) < 0) = false := by rw [decide_eq_false_iff_not]; omega
          have d1 : decide (C.l.length ≤ j) = true := by simpa using hle
          have d2 : decide ((C.l.length : Int) ≤ (j : Int)) = true := by rw [decide_eq_true_eq]; omega
          clear hq
          go_wp2_with fail
          go_ret
          exact rnone _ _ FW
      obtain ⟨m, rfl, hml⟩ := isSecB_true hq
      rw [hq, Bool.true_and, Int.toNat_natCast, lineOf_at hml] at hT
      clear hq
      have hln : Hid (∀ W, Fr (fun _ => False) wc W → ∃ gz oz, C.A1 = some ⟨gz, oz, none⟩ ∧ W.cell? ⟨gz, oz + m * 3 + 2, none⟩ = some (.int .i64 C.l[m].line)) := Lib.hid fun W fw => by
        obtain ⟨gz, oz, e, _, _, z2⟩ := rd_sec (h.secs.fr (fr_nil FW fw) fun _ _ => id) hml
        exact ⟨gz, oz, e, z2⟩
      generalize C.l[m].line = ln at *
      have d0 : decide ((m : Int) < 0) = false := by rw [decide_eq_false_iff_not]; omega
      have d1 : decide (C.l.length ≤ m) = false := by rw [decide_eq_false_iff_not]; omega
      have d2 : decide ((C.l.length : Int) ≤ (m : Int)) = false := by rw [decide_eq_false_iff_not]; omega
      have i1 : (0 : Int) ≤ (m : Int) := by omega
      have i2 : (m : Int) < (C.l.length : Int) := by omega
      have KS := secsL_any (c := r.c1) r.path _ (hr.path.fr FW fun _ _ => id) hb1
      rw [secsL_map] at KS
      have hse : secsOf r.path = r.path.map St.sec := rfl
      rw [hse] at hT
      have hpl : (r.path.map St.sec).length ≤ 9223372036854775807 := by rw [List.length_map]; omega
      generalize r.path.map St.sec = ps at *
      have HT := Lib.hid hT
      clear hT
      go_wp2_with fail
      refine KS.mono ?_
      clear KS r2 c0
      rintro _ w5 ⟨A5, c5, rfl, own5, f5⟩
      go_wp2_with fail
      refine (rin_any (c := c5) ps (m : Int) w5 (wide_rd own5) hpl).mono ?_
      clear own5
      rintro _ w6 ⟨rfl, f6⟩
      have f46 := fr_nil f5 f6
      have F6 := fr_nil FW f46
      obtain ⟨gz, oz, hA1, z2⟩ := hln.out _ f46
      obtain ⟨c0, -, -, -, -, -⟩ := HS.out _ (fr_nil F4 f46)
      have hT := HT.out
      clear HT hln f5 f6
      rw [hA1] at c0
      clear hA1
      cases hin : inL ps (m : Int)
      rotate_left
      · obtain rfl : [] = T := by rw [← hT, hin]; rfl
        clear hin
        go_wp2_with fail
        go_ret
        exact rnone _ _ F6
      rw [hin] at hT
      clear hin
      by_cases hma : (m : Int) = ap
      · obtain rfl : [] = T := by rw [← hT, hma]; simp
        have e1 : ((m : Int) == ap) = true := by simpa using hma
        clear hma hT
        go_wp2_with fail
        go_ret
        exact rnone _ _ F6
      have e1 : ((m : Int) == ap) = false := by rw [beq_eq_false_iff_ne]; exact hma
      by_cases hl0 : ln = 0
      rotate_left
      · obtain rfl : [] = T := by rw [← hT]; simp [hl0]
        have e2 : (ln != 0) = true := by simpa [bne_iff_ne] using hl0
        clear hma hl0 hT
        go_wp2_with fail
        go_ret
        exact rnone _ _ F6
      · obtain rfl : [(m : Int)] = T := by rw [← hT]; simp [hl0, hma]
        have e2 : (ln != 0) = false := by simp [hl0]
        clear hma hT
        subst hl0
        go_wp2_with fail
        go_ret
        exact ⟨_, _, rfl, own_one _ _ _ _ F6.size, F6.alloc _⟩
end Go.Proofs.YtginfnbdnkgjbaaGreat


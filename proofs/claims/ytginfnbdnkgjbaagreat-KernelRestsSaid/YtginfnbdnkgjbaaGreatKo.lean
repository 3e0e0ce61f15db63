/- Contracts and plain mathematics of earlier stages: Rpw. -/
import Derived.Test.YtginfnbdnkgjbaaGreatKn
import Derived.Test.YtginfnbdnkgjbaaGreatKm
import Derived.Test.YtginfnbdnkgjbaaGreatKu
import Derived.Deep.RegionHeld3
namespace Go.Proofs.YtginfnbdnkgjbaaGreat
open Go.RowKit

/-- what is asked of a route's numbers before its path is gone along -/
def rpreB (sg : List Sg) (r : Rt) : Bool := isSecB sg.length r.entry && ((decide (r.exit = -1) || isSecB sg.length r.exit) && (decide (1 ≤ r.path.length) && decide (r.path.length ≤ 8)))

set_option maxRecDepth 100000 in
set_option maxHeartbeats 8000000 in
theorem rpath_any (C : Cm) (r : Ro) (w : World) (h : C.Ok w) (hr : r.Ok w) :
    Calls Tryz.prog 62 #[C.val, r.val] w fun e w' => e = .returned (.bool (rpreB C.sg r.rt && (rpathL C.l C.js C.sg r.exit r.shunt (sgAt C.sg r.entry).sec (sgAt C.sg r.entry).fin [(sgAt C.sg r.entry).sec] r.path && rfinB C.js C.sg r.exit (lastSt r.path)))) ∧ Fr (fun _ => False) w w' := by
  have f0 := ((Fr.refl (fun _ => False) w).alloc (.cells C.arr 30)).alloc (.cells r.cells.toArray 74)
  have isC := (Is.new w 30 C.arr).alloc (.cells r.cells.toArray 74)
  have isr := Is.new (w.alloc (.cells C.arr 30)) 74 r.cells.toArray
  have hrb : (w.alloc (.cells C.arr 30)).heap.size = w.heap.size + 1 := by simp
  rw [hrb] at isr
  have hb3 := h.b3
  have hb2 := h.b2
  generalize hT : (rpathL C.l C.js C.sg r.exit r.shunt (sgAt C.sg r.entry).sec (sgAt C.sg r.entry).fin [(sgAt C.sg r.entry).sec] r.path && rfinB C.js C.sg r.exit (lastSt r.path)) = T
  have HT := Lib.hid hT
  clear hT hrb
  have hpre : rpreB C.sg r.rt = (isSecB C.sg.length r.entry && ((decide (r.exit = -1) || isSecB C.sg.length r.exit) && (decide (1 ≤ r.path.length) && decide (r.path.length ≤ 8)))) := rfl
  rw [hpre]
  clear hpre
  unfold Ro.cells at f0 isC isr
  unfold Cm.arr at f0 isC isr
  unfold Cm.val Ro.val Cm.arr
  generalize hP : (isSecB C.sg.length r.entry && ((decide (r.exit = -1) || isSecB C.sg.length r.exit) && (decide (1 ≤ r.path.length) && decide (r.path.length ≤ 8)))) = P
  have HP := Lib.hid hP
  clear hP
  have HIC := Lib.hid isC
  have HIR := Lib.hid isr
  have HF0 := Lib.hid f0
  go_enter Tryz.func62, Tryz.ntmps62
  go_upto_region 1 with (fail)
  generalize ((w.alloc _).alloc _) = w0 at *
  clear isC isr f0
  go_cut [55] from 20 to 56 (fun v55 wx => v55 = .bool (!P) ∧ wx = w0)
  case first =>
    obtain ⟨r0, r1, r2, r3, r4, r5⟩ := ro_cells HIR.out
    have c2 : w0.cell? ⟨w.heap.size, 2, none⟩ = some (.slice C.A3 C.sg.length C.c3) := HIC.out.cell 2
    have hP := HP.out
    cases hen : isSecB C.sg.length r.entry
    · rw [hen, Bool.false_and] at hP
      subst hP
      rcases not_sec hen with hn | ⟨j, hj, hle⟩
      · have d0 : decide (r.entry < 0) = true := by simpa using hn
        clear hen HP
        go_wp2_with fail
        go_meet
        exact ⟨rfl, rfl⟩
      · have d0 : decide ((j : Int) < 0) = false := by rw [decide_eq_false_iff_not]; omega
        have d1 : decide (C.sg.length ≤ j) = true := by simpa using hle
        have d2 : decide ((C.sg.length : Int) ≤ (j : Int)) = true := by rw [decide_eq_true_eq]; omega
        rw [hj] at r0
        clear hen HP hj
        go_wp2_with fail
        go_meet
        exact ⟨rfl, rfl⟩
    obtain ⟨j, hj, hjl⟩ := isSecB_true hen
    rw [hen, Bool.true_and] at hP
    rw [hj] at r0
    have d0 : decide ((j : Int) < 0) = false := by rw [decide_eq_false_iff_not]; omega
    have d1 : decide (C.sg.length ≤ j) = false := by rw [decide_eq_false_iff_not]; omega
    have d2 : decide ((C.sg.length : Int) ≤ (j : Int)) = false := by rw [decide_eq_false_iff_not]; omega
    clear hen HP hj
    by_cases x1 : r.exit < -1
    · have d3 : decide (r.exit < -1) = true := by simpa using x1
      have hs : isSecB C.sg.length r.exit = false := by unfold isSecB; rw [show decide (0 ≤ r.exit) = false by rw [decide_eq_false_iff_not]; omega]; rfl
      obtain rfl : false = P := by rw [← hP, hs, show decide (r.exit = -1) = false by rw [decide_eq_false_iff_not]; omega]; rfl
      clear hs x1 hP
      go_wp2_with fail
      go_meet
      exact ⟨rfl, rfl⟩
    have d3 : decide (r.exit < -1) = false := by rw [decide_eq_false_iff_not]; exact x1
    by_cases x2 : (C.sg.length : Int) ≤ r.exit
    · have d4 : decide ((C.sg.length : Int) ≤ r.exit) = true := by simpa using x2
      have hs : isSecB C.sg.length r.exit = false := by unfold isSecB; rw [show decide (r.exit < (C.sg.length : Int)) = false by rw [decide_eq_false_iff_not]; omega, Bool.and_false]
      obtain rfl : false = P := by rw [← hP, hs, show decide (r.exit = -1) = false by rw [decide_eq_false_iff_not]; omega]; rfl
      clear hs x1 x2 hP
      go_wp2_with fail
      go_meet
      exact ⟨rfl, rfl⟩
    have d4 : decide ((C.sg.length : Int) ≤ r.exit) = false := by rw [decide_eq_false_iff_not]; exact x2
    have hs : (decide (r.exit = -1) || isSecB C.sg.length r.exit) = true := by
      unfold isSecB
      by_cases x3 : r.exit = -1
      · simp [x3]
      · simp only [Bool.or_eq_true, Bool.and_eq_true, decide_eq_true_eq]; omega
    rw [hs, Bool.true_and] at hP
    clear hs x1 x2
    by_cases y1 : r.path.length < 1
    · have d5 : decide (r.path.length < 1) = true := by simpa using y1
      have d6 : decide ((r.path.length : Int) < 1) = true := by rw [decide_eq_true_eq]; omega
      obtain rfl : false = P := by rw [← hP, show decide (1 ≤ r.path.length) = false by rw [decide_eq_false_iff_not]; omega]; rfl
      clear hP y1
      go_wp2_with fail
      go_meet
      exact ⟨rfl, rfl⟩
    have d5 : decide (r.path.length < 1) = false := by rw [decide_eq_false_iff_not]; exact y1
    have d6 : decide ((r.path.length : Int) < 1) = false := by rw [decide_eq_false_iff_not]; omega
    by_cases y2 : 8 < r.path.length
    · have d7 : decide (8 < r.path.length) = true := by simpa using y2
      have d8 : decide ((8 : Int) < (r.path.length : Int)) = true := by rw [decide_eq_true_eq]; omega
      obtain rfl : false = P := by rw [← hP, show decide (r.path.length ≤ 8) = false by rw [decide_eq_false_iff_not]; omega, Bool.and_false]
      clear hP y1 y2
      go_wp2_with fail
      go_meet
      exact ⟨rfl, rfl⟩
    · have d7 : decide (8 < r.path.length) = false := by rw [decide_eq_false_iff_not]; exact y2
      have d8 : decide ((8 : Int) < (r.path.length : Int)) = false := by rw [decide_eq_false_iff_not]; omega
      obtain rfl : true = P := by rw [← hP, show decide (r.path.length ≤ 8) = true by rw [decide_eq_true_eq]; omega, show decide (1 ≤ r.path.length) = true by rw [decide_eq_true_eq]; omega]; rfl
      clear hP y1 y2
      go_wp2_with fail
      go_meet
      exact ⟨rfl, rfl⟩
  case rest =>
    obtain ⟨rfl, rfl⟩ := hcut
    go_upto_if 55 with (fail)
    cases P
    · go_wp2_with fail
      go_ret
      exact ⟨rfl, HF0.out⟩
    have hP := HP.out
    simp only [Bool.and_eq_true, decide_eq_true_eq] at hP
    obtain ⟨hen, hex, hp1, hp8⟩ := hP
    clear HP
    obtain ⟨e, he, hel⟩ := isSecB_true hen
    obtain ⟨r0, r1, r2, r3, r4, r5⟩ := ro_cells HIR.out
    have c2 : wc.cell? ⟨w.heap.size, 2, none⟩ = some (.slice C.A3 C.sg.length C.c3) := HIC.out.cell 2
    have hT := HT.out
    rw [he, sgAt_nat hel] at hT
    rw [he] at r0
    obtain ⟨gs, og, hA3, s0, s1⟩ := rd_sg (h.sigs.fr HF0.out fun _ _ => id) hel
    generalize C.sg[e] = g at *
    have HTT := Lib.hid hT
    have HEX := Lib.hid hex
    rw [hA3] at c2
    have i1 : (0 : Int) ≤ (e : Int) := by omega
    have i2 : (e : Int) < (C.sg.length : Int) := by omega
    clear hA3 hen he hT HT hex
    go_upto_region 4 with (fail)
    have fx := (Fr.refl (fun _ => False) wc).alloc (.cells #[.int .i64 g.sec, .int .i64 g.fin] 152)
    have isx := Is.new wc 152 #[.int .i64 g.sec, .int .i64 g.fin]
    clear r0 r1 r2 r3 r4 r5 c2 s0 s1 i1 i2
    generalize wc.alloc _ = w3 at *
    generalize hxb : wc.heap.size = xb at *
    have HXB := Lib.hid hxb
    clear hxb
    have x0 : w3.cell? ⟨xb, 0, none⟩ = some (.int .i64 g.sec) := isx.cell 0
    have x1 : w3.cell? ⟨xb, 1, none⟩ = some (.int .i64 g.fin) := isx.cell 1
    go_quiet (fail)
    go_upto_region 6 with (fail)
    have fy : Fr (fun _ => False) wc ((w3.drewN nq).alloc (.cells #[.int .i64 g.sec] 3)) := (fx.drewN nq).alloc _
    have own8 : ((w3.drewN nq).alloc (.cells #[.int .i64 g.sec] 3)).ownsRow xb 3 1 (.slice (some ⟨w3.heap.size, 0, none⟩) 1 1) 1 [.int .i64 g.sec] := own_one (w3.drewN nq) xb 3 g.sec (by rw [← HXB.out]; exact fx.size)
    clear x0 x1 isx fx
    generalize (w3.drewN nq).alloc _ = w4 at *
    generalize w3.heap.size = yb at *
    have r2 : w4.cell? ⟨w.heap.size + 1, 2, none⟩ = some (.slice r.a1 r.path.length r.c1) := (ro_cells (HIR.out.fr fy id)).2.2.1
    have hxs := hr.b1
    go_wp2_with fail
    clear r2
    go_loopg [6, 7, 8, 9, 10, 11, 12, 13, 14, 15, 16, 72] r.path.length (fun gi v6 v7 v8 _ _ _ _ _ _ _ _ v72 wr => ∃ (k : Nat) (s e : Int) (seen : List Int) (A8 : Option Addr) (c8 : Nat), k ≤ r.path.length ∧ gi = r.path.length - k ∧ v72 = .int .i64 (k : Nat) ∧ v6 = .int .i64 s ∧ v7 = .int .i64 e ∧ v8 = .slice A8 seen.length c8 ∧ Hid (seen.length = k + 1) ∧
        Hid ((rpathL C.l C.js C.sg r.exit r.shunt s e seen (r.path.drop k) && rfinB C.js C.sg r.exit (lastSt r.path)) = T) ∧ Hid (k ≠ 0 → (r.path.getD (k - 1) default).sec = s ∧ (r.path.getD (k - 1) default).out = e) ∧ wr.ownsRow xb 3 1 (.slice A8 seen.length c8) seen.length (seen.map (Value.int .i64)) ∧ Fr (fun _ => False) wc wr)
    case atStart => exact ⟨0, g.sec, g.fin, [g.sec], _, _, Nat.zero_le _, rfl, rfl, rfl, rfl, rfl, Lib.hid rfl, HTT, Lib.hid (fun h => absurd rfl h), own8, fy⟩
    case round =>
      clear HTT own8 fy
      obtain ⟨k, s, e2, seen, A8, c8, hk, rfl, rfl, rfl, rfl, rfl, hsl, HT, hlast, own8, f⟩ := hrel
      by_cases hlt : k < r.path.length
      · have HS : Hid (∀ W, Fr (fun _ => False) wc W → W.cell? ⟨w.heap.size, 0, none⟩ = some (.slice C.A1 C.l.length C.c1) ∧ W.cell? ⟨w.heap.size, 1, none⟩ = some (.slice C.A2 C.js.length C.c2) ∧ W.cell? ⟨w.heap.size, 2, none⟩ = some (.slice C.A3 C.sg.length C.c3) ∧ W.cell? ⟨w.heap.size, 3, none⟩ = some (.slice C.A4 C.cr.length C.c4) ∧ W.cell? ⟨w.heap.size, 4, none⟩ = some (.slice C.A5 C.rs.length C.c5) ∧ W.cell? ⟨w.heap.size, 5, none⟩ = some (.int .i64 C.tm.age) ∧ W.cell? ⟨w.heap.size, 6, none⟩ = some (.int .i64 C.tm.brake) ∧ W.cell? ⟨w.heap.size, 7, none⟩ = some (.int .i64 C.tm.hold) ∧ W.cell? ⟨w.heap.size, 8, none⟩ = some (.int .i64 C.tm.budget)) := Lib.hid fun W fw => conf_cells (HIC.out.fr fw id)
        obtain ⟨ga, oa, hA, q0, q1, q2⟩ := rd_st (hr.path.fr (fr_nil HF0.out f) fun _ _ => id) hlt
        have hT := HT.out
        rw [List.drop_eq_getElem_cons hlt, rpathL] at hT
        have hgx : r.path.getD k default = r.path[k] := by rw [List.getD_eq_getElem?_getD, List.getElem?_eq_getElem hlt]; rfl
        have hdn : (r.path.drop (k + 1) = []) = (k + 1 = r.path.length) := by
          rw [List.drop_eq_nil_iff]
          apply propext
          constructor <;> intro <;> omega
        generalize r.path[k] = x at *
        have HGX := Lib.hid hgx
        have HA := Lib.hid hA
        have i1 : (0 : Int) ≤ (k : Int) := by omega
        have i2 : (k : Int) < (r.path.length : Int) := by omega
        simp only [hdn] at hT
        have KN := fun W (f : Fr (fun _ => False) w W) => rnext_any (c := C.c2) s e2 W (h.jos.fr f fun _ _ => id) (by omega)
        generalize nextS C.js s e2 = S at *
        generalize nextE C.js s e2 = E at *
        generalize nextOk C.js s e2 = ok at *
        rw [hA]
        have HT2 := Lib.hid hT
        clear hA HT hgx hdn hT
        go_upto_region 9 with (fail)
        have f1 := f.alloc (.cells #[.int .i64 x.sec, .int .i64 x.inn, .int .i64 x.out] 76)
        have ist1 := Is.new wr 76 #[.int .i64 x.sec, .int .i64 x.inn, .int .i64 x.out]
        have own81 := own8.alloc (.cells #[.int .i64 x.sec, .int .i64 x.inn, .int .i64 x.out] 76)
        clear f own8 q0 q1 q2
        generalize wr.alloc _ = w1 at *
        generalize wr.heap.size = tb at *
        obtain ⟨-, p1, -⟩ := HS.out _ f1
        go_wp2_with fail
        refine (KN _ (fr_nil HF0.out f1)).mono ?_
        clear KN p1
        rintro _ w5 ⟨rfl, f5⟩
        have F5 := fr_nil f1 f5
        have ist5 := ist1.fr f5 id
        have own85 := wide_fr own81 f5 fun _ _ => id
        clear f1 f5 ist1 own81
        have t0 : w5.cell? ⟨tb, 0, none⟩ = some (.int .i64 x.sec) := ist5.cell 0
        have t1 : w5.cell? ⟨tb, 1, none⟩ = some (.int .i64 x.inn) := ist5.cell 1
        have hT := HT2.out
        clear HT2
        cases ok
        · obtain rfl : false = T := by rw [← hT]; rfl
          clear hT
          go_wp2_with fail
          go_ret
          exact ⟨by rfl, fr_nil HF0.out F5⟩
        rw [Bool.true_and] at hT
        by_cases h1 : S = x.sec
        rotate_left
        · obtain rfl : false = T := by rw [← hT, decide_eq_false h1]; rfl
          have e3 : (S != x.sec) = true := by rw [bne_iff_ne]; exact h1
          clear hT h1
          go_wp2_with fail
          go_ret
          exact ⟨by rfl, fr_nil HF0.out F5⟩
        have e3 : (S != x.sec) = false := by simp [h1]
        rw [decide_eq_true h1, Bool.true_and] at hT
        by_cases h2 : E = x.inn
        rotate_left
        · obtain rfl : false = T := by rw [← hT, decide_eq_false h2]; rfl
          have e4 : (E != x.inn) = true := by rw [bne_iff_ne]; exact h2
          clear hT h2 h1
          go_wp2_with fail
          go_ret
          exact ⟨by rfl, fr_nil HF0.out F5⟩
        have e4 : (E != x.inn) = false := by simp [h2]
        rw [decide_eq_true h2, Bool.true_and] at hT
        have HH1 := Lib.hid h1
        have HH2 := Lib.hid h2
        have HT2 := Lib.hid hT
        clear h1 h2 hT
        go_wp2_with fail
        refine (rin_any (c := c8) seen S w5 (wide_rd own85) (by have := hsl.out; omega)).mono ?_
        clear t0 t1
        rintro _ w6 ⟨rfl, f6⟩
        have F6 := fr_nil F5 f6
        have ist6 := ist5.fr f6 id
        have own86 := wide_fr own85 f6 fun _ _ => id
        clear F5 f6 ist5 own85 e3 e4
        have hT := HT2.out
        clear HT2
        cases hin : inL seen S
        rotate_left
        · obtain rfl : false = T := by rw [← hT, hin]; rfl
          clear hT hin
          go_wp2_with fail
          go_ret
          exact ⟨by rfl, fr_nil HF0.out F6⟩
        rw [hin, Bool.not_false, Bool.true_and] at hT
        clear hin
        have HT2 := Lib.hid hT
        clear hT
        have HS6 : Hid (∀ W, Fr (fun _ => False) w6 W → W.cell? ⟨w.heap.size, 0, none⟩ = some (.slice C.A1 C.l.length C.c1) ∧ W.cell? ⟨w.heap.size, 1, none⟩ = some (.slice C.A2 C.js.length C.c2) ∧ W.cell? ⟨w.heap.size, 2, none⟩ = some (.slice C.A3 C.sg.length C.c3) ∧ W.cell? ⟨w.heap.size, 3, none⟩ = some (.slice C.A4 C.cr.length C.c4) ∧ W.cell? ⟨w.heap.size, 4, none⟩ = some (.slice C.A5 C.rs.length C.c5) ∧ W.cell? ⟨w.heap.size, 5, none⟩ = some (.int .i64 C.tm.age) ∧ W.cell? ⟨w.heap.size, 6, none⟩ = some (.int .i64 C.tm.brake) ∧ W.cell? ⟨w.heap.size, 7, none⟩ = some (.int .i64 C.tm.hold) ∧ W.cell? ⟨w.heap.size, 8, none⟩ = some (.int .i64 C.tm.budget) ∧ W.cell? ⟨tb, 1, none⟩ = some (.int .i64 x.inn) ∧ W.cell? ⟨tb, 2, none⟩ = some (.int .i64 x.out)) := Lib.hid fun W fw => by
          obtain ⟨a0, a1, a2, a3, a4, a5, a6, a7, a8⟩ := HS.out W (fr_nil F6 fw)
          exact ⟨a0, a1, a2, a3, a4, a5, a6, a7, a8, (ist6.fr fw id).cell 1, (ist6.fr fw id).cell 2⟩
        have KK : Hid (∀ W, Fr (fun _ => False) w6 W → Calls Tryz.prog 131 #[.agg #[.slice C.A1 C.l.length C.c1, .slice C.A2 C.js.length C.c2, .slice C.A3 C.sg.length C.c3, .slice C.A4 C.cr.length C.c4, .slice C.A5 C.rs.length C.c5, .int .i64 C.tm.age, .int .i64 C.tm.brake, .int .i64 C.tm.hold, .int .i64 C.tm.budget], .int .i64 S] W fun e w' => e = .returned (.int .i64 (rkind C.l S)) ∧ Fr (fun _ => False) W w') := Lib.hid fun W fw => rkind_any C S W (h.fr (fr_nil HF0.out (fr_nil F6 fw)))
        have KP := fun W => rpos_any (rkind C.l S) x.inn x.out W
        go_upto_region 12 with (fail)
        have HG0 := Lib.hid (Fr.refl (fun _ => False) w6).drew
        have z0 := HS6.out _ HG0.out
        go_region_held3 (fun Wx => Wx.cell? ⟨w.heap.size, 0, none⟩ = some (.slice C.A1 C.l.length C.c1) ∧ Wx.cell? ⟨w.heap.size, 1, none⟩ = some (.slice C.A2 C.js.length C.c2) ∧ Wx.cell? ⟨w.heap.size, 2, none⟩ = some (.slice C.A3 C.sg.length C.c3) ∧ Wx.cell? ⟨w.heap.size, 3, none⟩ = some (.slice C.A4 C.cr.length C.c4) ∧ Wx.cell? ⟨w.heap.size, 4, none⟩ = some (.slice C.A5 C.rs.length C.c5) ∧ Wx.cell? ⟨w.heap.size, 5, none⟩ = some (.int .i64 C.tm.age) ∧ Wx.cell? ⟨w.heap.size, 6, none⟩ = some (.int .i64 C.tm.brake) ∧ Wx.cell? ⟨w.heap.size, 7, none⟩ = some (.int .i64 C.tm.hold) ∧ Wx.cell? ⟨w.heap.size, 8, none⟩ = some (.int .i64 C.tm.budget) ∧ Wx.cell? ⟨tb, 1, none⟩ = some (.int .i64 x.inn) ∧ Wx.cell? ⟨tb, 2, none⟩ = some (.int .i64 x.out)) (first | with_reducible exact z0 | with_reducible exact z1 | with_reducible exact z2) (first | (go_at_call 132; (with_reducible refine (KP _).mono ?_); rintro _ w9 ⟨rfl, f9⟩; have HG2 := Lib.hid (fr_nil HG1.out f9); have z2 := HS6.out _ HG2.out; clear f9) | (go_at_call 131; (with_reducible refine (KK.out _ HG0.out).mono ?_); rintro _ w9 ⟨rfl, f9⟩; have HG1 := Lib.hid (fr_nil HG0.out f9); have z1 := HS6.out _ HG1.out; clear f9))
        have F7 := fr_nil F6 HG2.out
        have ist7 := ist6.fr HG2.out id
        have own87 := wide_fr own86 HG2.out fun _ _ => id
        clear z0 z1 z2 HG0 HG1 HG2 KK KP HS6 F6 ist6 own86
        have hT := HT2.out
        clear HT2
        have hsplit : ∃ bt : Int, (if k + 1 = r.path.length then r.exit else -1) = bt ∧ ((((k : Int) == (r.path.length : Int) - 1) = true ∧ bt = r.exit) ∨ (((k : Int) == (r.path.length : Int) - 1) = false ∧ bt = -1)) := by
          by_cases hkl : k + 1 = r.path.length
          · exact ⟨r.exit, by rw [if_pos hkl], .inl ⟨by rw [beq_iff_eq]; omega, rfl⟩⟩
          · exact ⟨-1, by rw [if_neg hkl], .inr ⟨by rw [beq_eq_false_iff_ne]; omega, rfl⟩⟩
        obtain ⟨bt, hbt, hsp⟩ := hsplit
        rw [hbt] at hT
        clear hbt
        have KA : Hid (∀ W, Fr (fun _ => False) wc W → Calls Tryz.prog 130 #[.agg #[.slice C.A1 C.l.length C.c1, .slice C.A2 C.js.length C.c2, .slice C.A3 C.sg.length C.c3, .slice C.A4 C.cr.length C.c4, .slice C.A5 C.rs.length C.c5, .int .i64 C.tm.age, .int .i64 C.tm.brake, .int .i64 C.tm.hold, .int .i64 C.tm.budget], .int .i64 x.sec, .int .i64 x.out, .int .i64 bt] W fun e w' => e = .returned (.bool (atL x.sec x.out bt C.sg 0)) ∧ Fr (fun _ => False) W w') := Lib.hid fun W fw => rat_any C x.sec x.out bt W (h.fr (fr_nil HF0.out fw))
        have hr12 := ro_cells (HIR.out.fr F7 id)
        obtain ⟨-, r1, r2, -, -, r5⟩ := hr12
        obtain ⟨p0, p1, p2, p3, p4, p5, p6, p7, p8⟩ := HS.out _ F7
        have t0 := ist7.cell 0
        have t2 := ist7.cell 2
        simp only [List.getElem?_toArray, List.getElem?_cons_zero, List.getElem?_cons_succ] at t0 t2
        cases hpo : posOk (rkind C.l S) x.inn x.out
        · obtain rfl : false = T := by rw [← hT, hpo]; rfl
          clear hT hpo KA
          rcases hsp with ⟨e5, rfl⟩ | ⟨e5, rfl⟩
          all_goals
            go_wp2_with fail
            go_ret
            exact ⟨by rfl, fr_nil HF0.out F7⟩
        rw [hpo, Bool.true_and] at hT
        have hsS : isSecB C.l.length S = true := by
          cases hq : isSecB C.l.length S
          · rw [show rkind C.l S = -1 by unfold rkind; rw [hq, if_neg (by decide)]] at hpo
            cases hpo
          · rfl
        clear hpo
        obtain ⟨m, hm, hml⟩ := isSecB_true hsS
        subst hm
        rw [Int.toNat_natCast, lineOf_at hml] at hT
        have HLN : Hid (∀ W, Fr (fun _ => False) wc W → ∃ gz oz, C.A1 = some ⟨gz, oz, none⟩ ∧ W.cell? ⟨gz, oz + m * 3 + 2, none⟩ = some (.int .i64 C.l[m].line)) := Lib.hid fun W fw => by
          obtain ⟨gz, oz, e, _, _, z2⟩ := rd_sec (h.secs.fr (fr_nil HF0.out fw) fun _ _ => id) hml
          exact ⟨gz, oz, e, z2⟩
        generalize C.l[m].line = ln at *
        have i3 : (0 : Int) ≤ (m : Int) := by omega
        have i4 : (m : Int) < (C.l.length : Int) := by omega
        clear hsS
        have HT2 := Lib.hid hT
        clear hT
        obtain ⟨j0, hj0, hy0, hy1, hy2⟩ := info_parts Tryz.infoI6
        rcases hsp with ⟨e5, rfl⟩ | ⟨e5, rfl⟩
        all_goals
          go_wp2_with fail
          refine (KA.out _ F7).mono ?_
          clear KA r1 r2 r5 p0 p1 p2 p3 p4 p5 p6 p7 p8 t0 t2 e5
          rintro _ w8 ⟨rfl, f8⟩
          have hT := HT2.out
          clear HT2
          have F8 := fr_nil F7 f8
          obtain ⟨-, -, -, -, -, r5⟩ := ro_cells (HIR.out.fr F8 id)
          obtain ⟨gz, oz, hA1, z2⟩ := HLN.out _ F8
          have p0 : w8.cell? ⟨w.heap.size, 0, none⟩ = some (.slice C.A1 C.l.length C.c1) := (HS.out _ F8).1
          rw [hA1] at p0
          clear hA1 HLN
          generalize hrp : rpathL C.l C.js C.sg r.exit r.shunt x.sec x.out (seen ++ [(m : Int)]) (r.path.drop (k + 1)) = rp at hT
          have HRP := Lib.hid hrp
          clear hrp
          generalize atL x.sec x.out _ C.sg 0 = ab at *
          cases ab
          rotate_left
          · obtain rfl : false = T := by rw [← hT]; rfl
            clear hT
            go_wp2_with fail
            go_ret
            exact ⟨by rfl, fr_nil HF0.out F8⟩
          rw [Bool.not_false, Bool.true_and] at hT
          rcases (Bool.eq_false_or_eq_true r.shunt).symm with hsh | hsh
          · rw [hsh] at r5 hT
            rw [Bool.false_and, Bool.not_false, Bool.true_and] at hT
            have HT9 : Hid ((rpathL C.l C.js C.sg r.exit r.shunt x.sec x.out (seen ++ [(m : Int)]) (r.path.drop (k + 1)) && rfinB C.js C.sg r.exit (lastSt r.path)) = T) := Lib.hid (by rw [HRP.out]; exact hT)
            clear hT hsh HRP
            have own89 := (wide_fr own87 f8 fun _ _ => id).alloc (.cells #[.int .i64 (m : Int)] 3)
            have F9 := (fr_nil F7 f8).alloc (.cells #[.int .i64 (m : Int)] 3)
            have hlo8 := World.ownsRow.lt own89
            have hsl8 : seen.length ≤ 9 := by have := hsl.out; omega
            have G9 := F9.size
            rw [HXB.out] at G9
            have ist9 := (ist7.fr f8 id).alloc (.cells #[.int .i64 (m : Int)] 3)
            go_upto_region 19 with (at_builtin; refine wpList_append_wide _ rfl (.tmp 148) (.tmp 150) 25 rfl xb 3 j0 _ 1 8 Tryz.underlying25 hj0 hy0 hy1 hy2 rfl (by decide) (.slice A8 seen.length c8) seen.length (seen.map (Value.int .i64)) rfl own89 (some ⟨w8.heap.size, 0, none⟩) 1 1 [.int .i64 (m : Int)] rfl rfl (lit_rd_at (by simp) _ _) (by simp [Value.oneCell']) (by unfold maxLen; omega) (by omega) G9 ?_; intro v10 w10 own810 hg8 hat8; obtain ⟨A10, c10, rfl, _, _, _, _⟩ := wide_form own810)
            have ist10 := ist9.fr ((Fr.refl (fun j => (Value.slice A8 seen.length c8).ownBlock = some j) _).grown hg8 fun j hj => .inl hj) (wide_is_ne own89 ist9 (by decide))
            have F10 := F9.grown hg8 fun j hj => .inr (by rw [HXB.out]; exact (hlo8 j hj).1)
            have t0 : w10.cell? ⟨tb, 0, none⟩ = some (.int .i64 x.sec) := ist10.cell 0
            have t2 : w10.cell? ⟨tb, 2, none⟩ = some (.int .i64 x.out) := ist10.cell 2
            go_quiet (fail)
            go_wp2_with fail
            rw [← HA.out]
            go_roundg (r.path.length - (k + 1))
            case measure => omega
            case rel => exact ⟨k + 1, x.sec, x.out, seen ++ [(m : Int)], A10, c10, by omega, rfl, by go_num, rfl, rfl, by rw [List.length_append]; rfl, Lib.hid (by rw [List.length_append, hsl.out]; rfl), HT9, Lib.hid (fun _ => by rw [Nat.add_sub_cancel, HGX.out]; exact ⟨rfl, rfl⟩), by rw [List.length_append, List.map_append]; exact own810, F10.drewN _⟩
          · rw [hsh] at r5 hT
            by_cases hz : ln = 0
            · rw [hz, show (!(true && !decide ((0 : Int) = 0))) = true from rfl, Bool.true_and] at hT
              have HT9 : Hid ((rpathL C.l C.js C.sg r.exit r.shunt x.sec x.out (seen ++ [(m : Int)]) (r.path.drop (k + 1)) && rfinB C.js C.sg r.exit (lastSt r.path)) = T) := Lib.hid (by rw [HRP.out]; exact hT)
              have e7 : (ln != 0) = false := by simp [hz]
              clear hT hsh HRP hz
              have own89 := (wide_fr own87 f8 fun _ _ => id).alloc (.cells #[.int .i64 (m : Int)] 3)
              have F9 := (fr_nil F7 f8).alloc (.cells #[.int .i64 (m : Int)] 3)
              have hlo8 := World.ownsRow.lt own89
              have hsl8 : seen.length ≤ 9 := by have := hsl.out; omega
              have G9 := F9.size
              rw [HXB.out] at G9
              have ist9 := (ist7.fr f8 id).alloc (.cells #[.int .i64 (m : Int)] 3)
              go_upto_region 19 with (at_builtin; refine wpList_append_wide _ rfl (.tmp 148) (.tmp 150) 25 rfl xb 3 j0 _ 1 8 Tryz.underlying25 hj0 hy0 hy1 hy2 rfl (by decide) (.slice A8 seen.length c8) seen.length (seen.map (Value.int .i64)) rfl own89 (some ⟨w8.heap.size, 0, none⟩) 1 1 [.int .i64 (m : Int)] rfl rfl (lit_rd_at (by simp) _ _) (by simp [Value.oneCell']) (by unfold maxLen; omega) (by omega) G9 ?_; intro v10 w10 own810 hg8 hat8; obtain ⟨A10, c10, rfl, _, _, _, _⟩ := wide_form own810)
              have ist10 := ist9.fr ((Fr.refl (fun j => (Value.slice A8 seen.length c8).ownBlock = some j) _).grown hg8 fun j hj => .inl hj) (wide_is_ne own89 ist9 (by decide))
              have F10 := F9.grown hg8 fun j hj => .inr (by rw [HXB.out]; exact (hlo8 j hj).1)
              have t0 : w10.cell? ⟨tb, 0, none⟩ = some (.int .i64 x.sec) := ist10.cell 0
              have t2 : w10.cell? ⟨tb, 2, none⟩ = some (.int .i64 x.out) := ist10.cell 2
              go_quiet (fail)
              go_wp2_with fail
              rw [← HA.out]
              go_roundg (r.path.length - (k + 1))
              case measure => omega
              case rel => exact ⟨k + 1, x.sec, x.out, seen ++ [(m : Int)], A10, c10, by omega, rfl, by go_num, rfl, rfl, by rw [List.length_append]; rfl, Lib.hid (by rw [List.length_append, hsl.out]; rfl), HT9, Lib.hid (fun _ => by rw [Nat.add_sub_cancel, HGX.out]; exact ⟨rfl, rfl⟩), by rw [List.length_append, List.map_append]; exact own810, F10.drewN _⟩
            · obtain rfl : false = T := by rw [← hT, decide_eq_false hz]; rfl
              have e7 : (ln != 0) = true := by rw [bne_iff_ne]; exact hz
              clear hT hz hsh
              go_wp2_with fail
              go_ret
              exact ⟨by rfl, fr_nil HF0.out F8⟩
      · obtain rfl : k = r.path.length := by omega
        have hT := HT.out
        rw [List.drop_length, rpathL, Bool.true_and] at hT
        have hls : (lastSt r.path).sec = s ∧ (lastSt r.path).out = e2 := hlast.out (by omega)
        unfold rfinB at hT
        rw [hls.1, hls.2] at hT
        have hex := HEX.out
        rw [Bool.or_eq_true, decide_eq_true_eq] at hex
        obtain ⟨-, r1, -, -, -, -⟩ := ro_cells (HIR.out.fr f id)
        have p1 : wr.cell? ⟨w.heap.size, 1, none⟩ = some (.slice C.A2 C.js.length C.c2) := (HIC.out.fr f id).cell 1
        have c2 : wr.cell? ⟨w.heap.size, 2, none⟩ = some (.slice C.A3 C.sg.length C.c3) := (HIC.out.fr f id).cell 2
        have KN := rnext_any (c := C.c2) s e2 wr (h.jos.fr (fr_nil HF0.out f) fun _ _ => id) (by omega)
        clear hls hlast HT
        rcases hex with hx | hx
        · rw [hx] at r1 hT
          rw [if_neg (by decide)] at hT
          have HT := Lib.hid hT
          clear hT hx
          go_wp2_with fail
          refine KN.mono ?_
          rintro _ w5 ⟨rfl, f5⟩
          go_wp2_with fail
          go_ret
          exact ⟨by rw [← HT.out]; rfl, fr_nil HF0.out (fr_nil f f5)⟩
        · obtain ⟨j, hj, hjl⟩ := isSecB_true hx
          rw [hj] at r1 hT
          rw [if_pos (by omega), sgAt_nat hjl] at hT
          obtain ⟨g2, o2, hA3, s0, s1⟩ := rd_sg (h.sigs.fr (fr_nil HF0.out f) fun _ _ => id) hjl
          generalize C.sg[j] = v at *
          rw [hA3] at c2
          have i1 : (0 : Int) ≤ (j : Int) := by omega
          have i2 : (j : Int) < (C.sg.length : Int) := by omega
          clear hA3 hx hj KN
          rcases sg_ways ⟨s, e2⟩ v with hv | ⟨hv, h1⟩ | ⟨hv, h1, h2⟩
          · subst hv
            obtain rfl : true = T := by rw [← hT]; simp
            clear hT
            go_wp2_with fail
            go_ret
            exact ⟨by rfl, fr_nil HF0.out f⟩
          · obtain rfl : false = T := by rw [← hT, decide_eq_false (fun e => hv e.symm)]
            obtain ⟨v1, v2⟩ := v
            dsimp only at *
            have h1' : ¬ s = v1 := fun e => h1 e.symm
            clear hT hv
            go_wp2_with fail
            go_ret
            exact ⟨by first | rfl | simp [h1, h1'], fr_nil HF0.out f⟩
          · obtain rfl : false = T := by rw [← hT, decide_eq_false (fun e => hv e.symm)]
            obtain ⟨v1, v2⟩ := v
            dsimp only at *
            have h2' : ¬ e2 = v2 := fun e => h2 e.symm
            clear hT hv
            go_wp2_with fail
            go_ret
            exact ⟨by first | rfl | simp [h2, h2'], fr_nil HF0.out f⟩
end Go.Proofs.YtginfnbdnkgjbaaGreat


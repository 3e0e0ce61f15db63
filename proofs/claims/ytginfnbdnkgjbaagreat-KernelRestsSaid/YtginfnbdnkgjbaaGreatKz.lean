/- Contracts and plain mathematics of earlier stages: Rck. -/
import Derived.Test.YtginfnbdnkgjbaaGreatKo
import Derived.Test.YtginfnbdnkgjbaaGreatKr
import Derived.Test.YtginfnbdnkgjbaaGreatKy
import Derived.Deep.RegionHeld3
import Derived.Deep.LoopGhost
namespace Go.Proofs.YtginfnbdnkgjbaaGreat
open Go.RowKit

theorem last_of (x : St) (r : List St) : lastSt (x :: r) = (x :: r).getLast (by simp) := by
  unfold lastSt
  rw [List.getLast_eq_getElem, List.getD_eq_getElem?_getD, List.getElem?_eq_getElem (by simp)]
  rfl
/-- the document's check of a route is the program's -/
theorem rroute_ref {l : List Sec} {js : List Jo} {sg : List Sg} (r : Rt) (hj : jointsB l js = true) (hs : sigsB js sg = true) :
    (rpreB sg r && (rpathL l js sg r.exit r.shunt (sgAt sg r.entry).sec (sgAt sg r.entry).fin [(sgAt sg r.entry).sec] r.path && rfinB js sg r.exit (lastSt r.path))) = routeB l js sg r := by
  unfold rpreB routeB
  cases hen : isSecB sg.length r.entry
  · rfl
  simp only [Bool.true_and]
  cases hex : (decide (r.exit = -1) || isSecB sg.length r.exit)
  · rfl
  simp only [Bool.true_and]
  by_cases h1 : 1 ≤ r.path.length
  rotate_left
  · simp [h1]
  rw [decide_eq_true h1]
  simp only [Bool.true_and]
  by_cases h8 : r.path.length ≤ 8
  rotate_left
  · simp [h8]
  rw [decide_eq_true h8]
  simp only [Bool.true_and]
  obtain ⟨k, he, hk⟩ := isSecB_true hen
  rw [he, sgAt_nat hk]
  have hsec := sigs_in hj sg hs _ (List.getElem_mem hk)
  generalize sg[k] = g at *
  obtain ⟨m, hm, hml⟩ := isSecB_true hsec
  obtain ⟨gs, ge⟩ := g
  dsimp only at hm
  subst hm
  dsimp only
  have hx : r.exit = -1 ∨ isSecB sg.length r.exit = true := by
    rw [Bool.or_eq_true, decide_eq_true_eq] at hex
    exact hex
  obtain ⟨en, ex, path, flank, over, shunt⟩ := r
  dsimp only at *
  cases path with
  | nil => simp at h1
  | cons x q =>
    have key := path_ref (shunt := shunt) hj hs hx q x (m : Int) ge [(m : Int)] ((List.replicate l.length false).set m true) (by rw [List.length_set, List.length_replicate]) (fun j hjl => by
      rw [seenAt_set _ _ _ (by rw [List.length_replicate]; exact hml), seen_none]
      unfold inL
      by_cases e : m = j
      · simp [e]
      · have : ¬ (m : Int) = (j : Int) := by omega
        simp [e, this])
    rw [last_of, Int.toNat_natCast, show (x :: q).take ((x :: q).length - 1) = (x :: q).dropLast by rw [List.dropLast_eq_take]]
    rw [Bool.eq_iff_iff, Bool.and_eq_true, key]
    simp only [Bool.and_eq_true, Bool.not_eq_true']
    constructor
    · rintro ⟨a, b, c, d, e⟩
      exact ⟨a, b, ⟨c, d⟩, e⟩
    · rintro ⟨a, b, ⟨c, d⟩, e⟩
      exact ⟨a, b, c, d, e⟩
theorem check_sections {l : List Sec} {js : List Jo} (h : checkB l js = true) : sectionsB l = true ∧ jointsB l js = true := by
  unfold checkB at h
  simp only [Bool.and_eq_true] at h
  exact ⟨h.2.1, h.2.2.1⟩
theorem route_small {l : List Sec} {js : List Jo} {sg : List Sg} {r : Rt} (h : routeB l js sg r = true) : r.path.length ≤ 8 := by
  unfold routeB at h
  simp only [Bool.and_eq_true, decide_eq_true_eq] at h
  exact h.2.2.2.1
theorem conf_cells0 {w : World} {b : Nat} {v0 v1 v2 v3 v4 v5 v6 v7 v8 : Value} {t : TypeId} (h : Is w b t #[v0, v1, v2, v3, v4, v5, v6, v7, v8]) : w.cell? ⟨b, 0, none⟩ = some v0 ∧ w.cell? ⟨b, 1, none⟩ = some v1 ∧ w.cell? ⟨b, 2, none⟩ = some v2 ∧ w.cell? ⟨b, 3, none⟩ = some v3 ∧ w.cell? ⟨b, 4, none⟩ = some v4 ∧ w.cell? ⟨b, 5, none⟩ = some v5 ∧ w.cell? ⟨b, 6, none⟩ = some v6 ∧ w.cell? ⟨b, 7, none⟩ = some v7 ∧ w.cell? ⟨b, 8, none⟩ = some v8 :=
  ⟨h.cell 0, h.cell 1, h.cell 2, h.cell 3, h.cell 4, h.cell 5, h.cell 6, h.cell 7, h.cell 8⟩
theorem time_parts (t : Tm) : timeB t = ((decide (1 ≤ t.age) && decide (t.age ≤ 8)) && ((decide (0 ≤ t.brake) && decide (t.brake ≤ 8)) && ((decide (t.age + t.brake + 1 ≤ t.hold) && decide (t.hold ≤ 40)) && (decide (1 ≤ t.budget) && decide (t.budget ≤ 1000000))))) := rfl

set_option maxRecDepth 100000 in
set_option maxHeartbeats 8000000 in
theorem rck_any (C : Cm) (w : World) (h : C.Ok w) :
    Calls Tryz.prog 25 #[C.val] w fun e w' => e = .returned (.int .i64 (checkE C.cf)) ∧ Fr (fun _ => False) w w' := by
  have b1 := h.b1
  have b2 := h.b2
  have b5 := h.b5
  have KT := fun W (f : Fr (fun _ => False) w W) => rcheck_any (c1 := C.c1) (c2 := C.c2) W (h.secs.fr f fun _ _ => id) (h.jos.fr f fun _ _ => id) (by omega) (by omega)
  have KS := fun W (f : Fr (fun _ => False) w W) => rsignals_any C W (h.fr f)
  have KC := fun W (f : Fr (fun _ => False) w W) => rcrossings_any C W (h.fr f)
  have KP := fun (r : Ro) W (f : Fr (fun _ => False) w W) (hr : r.Ok W) => rpath_any C r W (h.fr f) hr
  have KA := fun (k : Int) W (f : Fr (fun _ => False) w W) => rapproach_any C k W (h.fr f)
  have KF := fun (r : Ro) ap W (f : Fr (fun _ => False) w W) (hr : r.Ok W) (hl : r.path.length ≤ 8) => rflank_any C ap (c := r.c1) r.path W (h.fr f) hr.path (by omega)
  have KO := fun (r : Ro) W (f : Fr (fun _ => False) w W) (hr : r.Ok W) => roverlap_any C r W (h.fr f) hr
  simp only [sigs_ref, ← check_ref] at KT KS
  generalize hT : checkE C.cf = T
  have hT : (if checkB C.l C.js = false then 6 else if (decide (C.sg.length ≤ 12) && sigsB C.js C.sg) = false then 7 else if (decide (C.cr.length ≤ 4) && crsB C.l C.cr) = false then 8
      else if ¬ (C.rs.map Ro.rt).length ≤ 12 then 9 else if routesE C.l C.js C.sg (C.rs.map Ro.rt) ≠ 0 then routesE C.l C.js C.sg (C.rs.map Ro.rt) else if timeB C.tm = false then 12 else 0) = T := hT
  rw [List.length_map] at hT
  have HIC := Lib.hid (Is.new w 30 C.arr)
  have HF0 := Lib.hid ((Fr.refl (fun _ => False) w).alloc (.cells C.arr 30))
  unfold Cm.val Cm.arr at *
  unfold Ro.val at KP KO
  cases ht : checkB C.l C.js
  · rw [if_pos ht] at hT
    subst hT
    rw [ht] at KT
    have e6 : errOf false = 6 := rfl
    rw [e6] at KT
    clear KS KC KP KA KF KO e6 ht
    go_enter Tryz.func25, Tryz.ntmps25
    go_wp2_with fail
    refine (KT _ HF0.out).mono ?_
    rintro _ w1 ⟨rfl, f1⟩
    go_wp2_with fail
    go_ret
    exact ⟨rfl, fr_nil HF0.out f1⟩
  obtain ⟨hsec, hj⟩ := check_sections ht
  simp only [crs_ref hsec] at KC
  rw [if_neg (by rw [ht]; decide)] at hT
  rw [ht] at KT
  have e0 : errOf true = 0 := rfl
  rw [e0] at KT
  have HT := Lib.hid hT
  have HJ := Lib.hid hj
  clear e0 hT ht hsec hj
  go_enter Tryz.func25, Tryz.ntmps25
  go_wp2_with fail
  refine (KT _ HF0.out).mono ?_
  rintro _ w1 ⟨rfl, f1⟩
  have isc := HIC.out.fr f1 id
  have F := fr_nil HF0.out f1
  clear f1 KT
  obtain ⟨p0, p1, p2, p3, p4, p5, p6, p7, p8⟩ := conf_cells0 isc
  go_wp2_with fail
  refine (KS _ F).mono ?_
  rintro _ w2 ⟨rfl, f2⟩
  have isc := isc.fr f2 id
  have F := fr_nil F f2
  have hT := HT.out
  clear f2 KS HT p0 p1 p2 p3 p4 p5 p6 p7 p8
  rw [Bool.and_comm] at hT
  cases hs : (sigsB C.js C.sg && decide (C.sg.length ≤ 12))
  · rw [if_pos hs] at hT
    subst hT
    clear hs
    go_wp2_with fail
    go_ret
    exact ⟨rfl, F⟩
  rw [if_neg (by rw [hs]; decide)] at hT
  have HSG : Hid (sigsB C.js C.sg = true) := Lib.hid (by simp only [Bool.and_eq_true] at hs; exact hs.1)
  have HT := Lib.hid hT
  clear hT hs
  obtain ⟨p0, p1, p2, p3, p4, p5, p6, p7, p8⟩ := conf_cells0 isc
  go_wp2_with fail
  refine (KC _ F).mono ?_
  rintro _ w3 ⟨rfl, f3⟩
  have isc := isc.fr f3 id
  have F := fr_nil F f3
  have hT := HT.out
  clear f3 KC HT p0 p1 p2 p3 p4 p5 p6 p7 p8
  rw [Bool.and_comm] at hT
  cases hc : (crsB C.l C.cr && decide (C.cr.length ≤ 4))
  · rw [if_pos hc] at hT
    subst hT
    clear hc
    go_wp2_with fail
    go_ret
    exact ⟨rfl, F⟩
  rw [if_neg (by rw [hc]; decide)] at hT
  clear hc
  obtain ⟨p0, p1, p2, p3, p4, p5, p6, p7, p8⟩ := conf_cells0 isc
  by_cases hl : C.rs.length ≤ 12
  rotate_left
  · rw [if_pos hl] at hT
    subst hT
    have z12 : ((12 : Int) < (C.rs.length : Int)) = True := by simp; omega
    clear hl
    go_wp2_with fail
    go_ret
    exact ⟨rfl, F⟩
  rw [if_neg (by simpa using hl)] at hT
  have z12 : ((12 : Int) < (C.rs.length : Int)) = False := by simp; omega
  generalize hRE : routesE C.l C.js C.sg (C.rs.map Ro.rt) = RE at hT
  have HRE := Lib.hid hRE
  have HT := Lib.hid hT
  clear hl hT hRE
  go_wp2_with fail
  clear z12 p0 p1 p2 p3 p4 p5 p6 p7 p8
  go_loopg [3, 25] C.rs.length (fun gi _ v25 wr => ∃ k : Nat, k ≤ C.rs.length ∧ gi = C.rs.length - k ∧ v25 = .int .i64 (k : Nat) ∧ Hid (routesE C.l C.js C.sg ((C.rs.drop k).map Ro.rt) = RE) ∧ Is wr w.heap.size 30 #[.slice C.A1 C.l.length C.c1, .slice C.A2 C.js.length C.c2, .slice C.A3 C.sg.length C.c3, .slice C.A4 C.cr.length C.c4, .slice C.A5 C.rs.length C.c5, .int .i64 C.tm.age, .int .i64 C.tm.brake, .int .i64 C.tm.hold, .int .i64 C.tm.budget] ∧ Fr (fun _ => False) w wr)
  case atStart => exact ⟨0, Nat.zero_le _, rfl, rfl, HRE, isc, F⟩
  case round =>
    clear HRE isc F
    obtain ⟨k, hk, rfl, rfl, HR, isc, F⟩ := hrel
    by_cases hlt : k < C.rs.length
    · obtain ⟨g, o, hA, q0, q1, q2, q3, q4, q5⟩ := rd_ro (h.rts.fr F fun _ _ => id) hlt
      have hro : C.rs[k].Ok w := h.each _ (List.getElem_mem hlt)
      have hap : apR C (k : Int) = apM C.sg C.rs[k].entry := by
        unfold apR
        rw [isSecB_nat hlt, if_pos rfl, Int.toNat_natCast, rs_at hlt]
      have KAk := KA (k : Int)
      rw [hap] at KAk
      have hR := HR.out
      rw [List.drop_eq_getElem_cons hlt, List.map_cons, routesE] at hR
      generalize hrest : routesE C.l C.js C.sg ((C.rs.drop (k + 1)).map Ro.rt) = rest at *
      have HRS := Lib.hid hrest
      clear hrest hap HR
      generalize C.rs[k] = r at *
      have hR : (if routeB C.l C.js C.sg r.rt = false then 9 else if r.flank ≠ flankM C.l C.js (apM C.sg r.entry) r.path then 10 else if r.over ≠ overM C.l C.js C.sg r.rt then 11 else rest) = RE := hR
      have KPr : ∀ W, Fr (fun _ => False) w W → r.Ok W → Calls Tryz.prog 62 #[.agg #[.slice C.A1 C.l.length C.c1, .slice C.A2 C.js.length C.c2, .slice C.A3 C.sg.length C.c3, .slice C.A4 C.cr.length C.c4, .slice C.A5 C.rs.length C.c5, .int .i64 C.tm.age, .int .i64 C.tm.brake, .int .i64 C.tm.hold, .int .i64 C.tm.budget], .agg #[.int .i64 r.entry, .int .i64 r.exit, .slice r.a1 r.path.length r.c1, .slice r.a2 r.flank.length r.c2, .slice r.a3 r.over.length r.c3, .bool r.shunt]] W fun e w' => e = .returned (.bool (routeB C.l C.js C.sg r.rt)) ∧ Fr (fun _ => False) W w' := fun W f hr => by
        rw [← rroute_ref r.rt HJ.out HSG.out]
        exact KP r W f hr
      have KFr := KF r (apM C.sg r.entry)
      have KOr := KO r
      clear KP KF KO KA
      have isl := Is.new wr 74 #[.int .i64 r.entry, .int .i64 r.exit, .slice r.a1 r.path.length r.c1, .slice r.a2 r.flank.length r.c2, .slice r.a3 r.over.length r.c3, .bool r.shunt]
      have isc1 := isc.alloc (.cells #[.int .i64 r.entry, .int .i64 r.exit, .slice r.a1 r.path.length r.c1, .slice r.a2 r.flank.length r.c2, .slice r.a3 r.over.length r.c3, .bool r.shunt] 74)
      have F1 := F.alloc (.cells #[.int .i64 r.entry, .int .i64 r.exit, .slice r.a1 r.path.length r.c1, .slice r.a2 r.flank.length r.c2, .slice r.a3 r.over.length r.c3, .bool r.shunt] 74)
      have hro1 := hro.fr F1
      have i1 : (0 : Int) ≤ (k : Int) := by omega
      have i2 : (k : Int) < (C.rs.length : Int) := by omega
      rw [hA]
      have HA := Lib.hid hA
      clear hA hro isc F
      go_upto_region 12 with (fail)
      generalize wr.heap.size = bl at *
      generalize wr.alloc _ = w1 at *
      obtain ⟨p0, p1, p2, p3, p4, p5, p6, p7, p8⟩ := conf_cells0 isc1
      obtain ⟨r0, r1, r2, r3, r4, r5⟩ := ro_cells isl
      rw [HA.out] at p4
      have KPr := KPr w1 F1 hro1
      rw [HA.out] at KPr
      clear q0 q1 q2 q3 q4 q5
      go_wp2_with fail
      refine KPr.mono ?_
      rintro _ w2 ⟨rfl, f2⟩
      have isc2 := isc1.fr f2 id
      have isl2 := isl.fr f2 id
      have F2 := fr_nil F1 f2
      have hro2 := hro1.fr f2
      clear KPr p0 p1 p2 p3 p4 p5 p6 p7 p8 r0 r1 r2 r3 r4 r5 isc1 isl F1 hro1 f2
      cases hb : routeB C.l C.js C.sg r.rt
      · rw [if_pos hb] at hR
        have hT := HT.out
        rw [← hR, if_pos (by decide)] at hT
        subst hT
        clear hb
        go_wp2_with fail
        go_ret
        exact ⟨rfl, F2⟩
      have hp8 : r.path.length ≤ 8 := route_small hb
      rw [if_neg (by rw [hb]; decide)] at hR
      have HR := Lib.hid hR
      clear hR hb
      go_upto_region 14 with (fail)
      have HS : Hid (∀ W, Fr (fun _ => False) w2 W → (W.cell? ⟨w.heap.size, 0, none⟩ = some (.slice C.A1 C.l.length C.c1) ∧ W.cell? ⟨w.heap.size, 1, none⟩ = some (.slice C.A2 C.js.length C.c2) ∧ W.cell? ⟨w.heap.size, 2, none⟩ = some (.slice C.A3 C.sg.length C.c3) ∧ W.cell? ⟨w.heap.size, 3, none⟩ = some (.slice C.A4 C.cr.length C.c4) ∧ W.cell? ⟨w.heap.size, 4, none⟩ = some (.slice C.A5 C.rs.length C.c5) ∧ W.cell? ⟨w.heap.size, 5, none⟩ = some (.int .i64 C.tm.age) ∧ W.cell? ⟨w.heap.size, 6, none⟩ = some (.int .i64 C.tm.brake) ∧ W.cell? ⟨w.heap.size, 7, none⟩ = some (.int .i64 C.tm.hold) ∧ W.cell? ⟨w.heap.size, 8, none⟩ = some (.int .i64 C.tm.budget)) ∧ (W.cell? ⟨bl, 0, none⟩ = some (.int .i64 r.entry) ∧ W.cell? ⟨bl, 1, none⟩ = some (.int .i64 r.exit) ∧ W.cell? ⟨bl, 2, none⟩ = some (.slice r.a1 r.path.length r.c1) ∧ W.cell? ⟨bl, 3, none⟩ = some (.slice r.a2 r.flank.length r.c2) ∧ W.cell? ⟨bl, 4, none⟩ = some (.slice r.a3 r.over.length r.c3) ∧ W.cell? ⟨bl, 5, none⟩ = some (.bool r.shunt))) := Lib.hid fun W fw => ⟨conf_cells0 (isc2.fr fw id), ro_cells (isl2.fr fw id)⟩
      have HG0 := Lib.hid (Fr.refl (fun _ => False) w2).drew
      have HRO := Lib.hid hro2
      have HF2 := Lib.hid F2
      have HP8 := Lib.hid hp8
      have s0 := HS.out _ HG0.out
      have HISC := Lib.hid isc2
      clear isc2 isl2 hro2 F2 hp8
      rw [HA.out] at HS s0
      have HKA : Hid _ := Lib.hid KAk
      rw [HA.out] at HKA KFr KOr
      have HKF := Lib.hid KFr
      have HKO := Lib.hid KOr
      clear KAk KFr KOr
      generalize flankM C.l C.js (apM C.sg r.entry) r.path = L at *
      generalize overM C.l C.js C.sg r.rt = O at *
      go_cut [44] from 34 to 45 (fun v44 wx => v44 = .bool (!decide (r.flank = L)) ∧ Fr (fun _ => False) w2 wx)
      case first =>
        go_region_held3 (fun Wx => (Wx.cell? ⟨w.heap.size, 0, none⟩ = some (.slice C.A1 C.l.length C.c1) ∧ Wx.cell? ⟨w.heap.size, 1, none⟩ = some (.slice C.A2 C.js.length C.c2) ∧ Wx.cell? ⟨w.heap.size, 2, none⟩ = some (.slice C.A3 C.sg.length C.c3) ∧ Wx.cell? ⟨w.heap.size, 3, none⟩ = some (.slice C.A4 C.cr.length C.c4) ∧ Wx.cell? ⟨w.heap.size, 4, none⟩ = some (.slice (some ⟨g, o, none⟩) C.rs.length C.c5) ∧ Wx.cell? ⟨w.heap.size, 5, none⟩ = some (.int .i64 C.tm.age) ∧ Wx.cell? ⟨w.heap.size, 6, none⟩ = some (.int .i64 C.tm.brake) ∧ Wx.cell? ⟨w.heap.size, 7, none⟩ = some (.int .i64 C.tm.hold) ∧ Wx.cell? ⟨w.heap.size, 8, none⟩ = some (.int .i64 C.tm.budget)) ∧ (Wx.cell? ⟨bl, 0, none⟩ = some (.int .i64 r.entry) ∧ Wx.cell? ⟨bl, 1, none⟩ = some (.int .i64 r.exit) ∧ Wx.cell? ⟨bl, 2, none⟩ = some (.slice r.a1 r.path.length r.c1) ∧ Wx.cell? ⟨bl, 3, none⟩ = some (.slice r.a2 r.flank.length r.c2) ∧ Wx.cell? ⟨bl, 4, none⟩ = some (.slice r.a3 r.over.length r.c3) ∧ Wx.cell? ⟨bl, 5, none⟩ = some (.bool r.shunt))) (first | with_reducible exact s0 | with_reducible exact s1 | with_reducible exact s2 | with_reducible exact s3) (first | (go_at_call 65; (with_reducible refine (HKA.out _ (fr_nil HF2.out HG0.out)).mono ?_); rintro _ w3 ⟨rfl, f3⟩; have HG1 := Lib.hid (fr_nil HG0.out f3); have s1 := HS.out _ HG1.out; clear f3) | (go_at_call 64; (with_reducible refine (HKF.out _ (fr_nil HF2.out HG1.out) (HRO.out.fr HG1.out) HP8.out).mono ?_); rintro _ w4 ⟨A4, c4, rfl, own4, f4⟩; have HG2 := Lib.hid (fr_nil HG1.out f4); have s2 := HS.out _ HG2.out; have HO4 := Lib.hid (wide_rd own4); clear f4 own4) | (go_at_call 63; (with_reducible refine (rsameneeds_any (c := r.c2) (c' := c4) _ (HRO.out.fr HG2.out).flank HO4.out (by have := HRO.out.b2; omega)).mono ?_); rintro _ w5 ⟨rfl, f5⟩; have HG3 := Lib.hid (fr_nil HG2.out f5); have s3 := HS.out _ HG3.out; clear f5))
        all_goals
          go_wp2_with fail
          go_meet
          exact ⟨rfl, HG3.out⟩
      case rest =>
        obtain ⟨rfl, HGx⟩ := hcut
        clear HG0 s0 HKA HKF
        have hR := HR.out
        have hT := HT.out
        by_cases hfl : r.flank = L
        rotate_left
        · rw [if_pos hfl] at hR
          rw [← hR, if_pos (by decide)] at hT
          subst hT
          rw [decide_eq_false hfl]
          clear hfl HR HT hR
          go_wp2_with fail
          go_ret
          exact ⟨rfl, fr_nil HF2.out HGx⟩
        rw [if_neg (by simpa using hfl)] at hR
        rw [decide_eq_true hfl]
        clear HR hfl
        have HR := Lib.hid hR
        have HG0 := Lib.hid HGx.drew
        have s0 := HS.out _ HG0.out
        clear hR hT HGx
        go_upto_region 16 with (fail)
        go_cut [51] from 45 to 52 (fun v51 wx => v51 = .bool (!decide (r.over = O)) ∧ Fr (fun _ => False) w2 wx)
        case first =>
          go_region_held3 (fun Wx => (Wx.cell? ⟨w.heap.size, 0, none⟩ = some (.slice C.A1 C.l.length C.c1) ∧ Wx.cell? ⟨w.heap.size, 1, none⟩ = some (.slice C.A2 C.js.length C.c2) ∧ Wx.cell? ⟨w.heap.size, 2, none⟩ = some (.slice C.A3 C.sg.length C.c3) ∧ Wx.cell? ⟨w.heap.size, 3, none⟩ = some (.slice C.A4 C.cr.length C.c4) ∧ Wx.cell? ⟨w.heap.size, 4, none⟩ = some (.slice (some ⟨g, o, none⟩) C.rs.length C.c5) ∧ Wx.cell? ⟨w.heap.size, 5, none⟩ = some (.int .i64 C.tm.age) ∧ Wx.cell? ⟨w.heap.size, 6, none⟩ = some (.int .i64 C.tm.brake) ∧ Wx.cell? ⟨w.heap.size, 7, none⟩ = some (.int .i64 C.tm.hold) ∧ Wx.cell? ⟨w.heap.size, 8, none⟩ = some (.int .i64 C.tm.budget)) ∧ (Wx.cell? ⟨bl, 0, none⟩ = some (.int .i64 r.entry) ∧ Wx.cell? ⟨bl, 1, none⟩ = some (.int .i64 r.exit) ∧ Wx.cell? ⟨bl, 2, none⟩ = some (.slice r.a1 r.path.length r.c1) ∧ Wx.cell? ⟨bl, 3, none⟩ = some (.slice r.a2 r.flank.length r.c2) ∧ Wx.cell? ⟨bl, 4, none⟩ = some (.slice r.a3 r.over.length r.c3) ∧ Wx.cell? ⟨bl, 5, none⟩ = some (.bool r.shunt))) (first | with_reducible exact s0 | with_reducible exact s1 | with_reducible exact s2) (first | (go_at_call 67; (with_reducible refine (HKO.out _ (fr_nil HF2.out HG0.out) (HRO.out.fr HG0.out)).mono ?_); rintro _ w4 ⟨A4, c4, rfl, own4, f4⟩; have HG1 := Lib.hid (fr_nil HG0.out f4); have s1 := HS.out _ HG1.out; have HO4 := Lib.hid (wide_rd own4); clear f4 own4) | (go_at_call 66; (with_reducible refine (rsameints_any (c := r.c3) (c' := c4) _ (HRO.out.fr HG1.out).over HO4.out (by have := HRO.out.b3; omega)).mono ?_); rintro _ w5 ⟨rfl, f5⟩; have HG2 := Lib.hid (fr_nil HG1.out f5); have s2 := HS.out _ HG2.out; clear f5))
          all_goals
            go_wp2_with fail
            go_meet
            exact ⟨rfl, HG2.out⟩
        case rest =>
          obtain ⟨rfl, HGx⟩ := hcut
          clear HG0 s0 HKO
          have hR := HR.out
          have hT := HT.out
          by_cases hfl : r.over = O
          rotate_left
          · rw [if_pos hfl] at hR
            rw [← hR, if_pos (by decide)] at hT
            subst hT
            rw [decide_eq_false hfl]
            clear hfl HR HT hR
            go_wp2_with fail
            go_ret
            exact ⟨rfl, fr_nil HF2.out HGx⟩
          rw [if_neg (by simpa using hfl)] at hR
          rw [decide_eq_true hfl]
          have HR2 : Hid (routesE C.l C.js C.sg ((C.rs.drop (k + 1)).map Ro.rt) = RE) := Lib.hid (HRS.out.trans hR)
          clear hfl HR hR hT
          go_wp2_with fail
          rw [← HA.out]
          go_roundg (C.rs.length - (k + 1))
          case measure => omega
          case rel => exact ⟨k + 1, by omega, rfl, by go_num, HR2, HISC.out.fr HGx id, fr_nil HF2.out HGx⟩
    · obtain rfl : k = C.rs.length := by omega
      have hR := HR.out
      rw [List.drop_length, List.map_nil, routesE] at hR
      have hT := HT.out
      rw [← hR, if_neg (by decide)] at hT
      have isc' := isc
      obtain ⟨p0, p1, p2, p3, p4, p5, p6, p7, p8⟩ := conf_cells0 isc
      clear HR HT hR isc isc' KP KF KO KA HJ HSG
      generalize htm : timeB C.tm = TB at hT
      have HTM := Lib.hid htm
      have HT := Lib.hid hT
      clear hT htm
      generalize C.tm = tm at *
      obtain ⟨a, b, hd, bu⟩ := tm
      rw [time_parts] at HTM
      dsimp only at HTM p5 p6 p7 p8
      by_cases y0 : a < 1
      · have d0 : decide (a < 1) = true := decide_eq_true y0
        obtain rfl : false = TB := by
          rw [← HTM.out, decide_eq_false (show ¬ ((1 : Int) ≤ a) by omega)]
          simp
        have hT := HT.out
        rw [if_pos rfl] at hT
        subst hT
        clear y0 HTM HT
        go_wp2_with fail
        go_ret
        exact ⟨rfl, F.alloc _⟩
      have d0 : decide (a < 1) = false := decide_eq_false y0
      by_cases y1 : 8 < a
      · have d1 : decide (8 < a) = true := decide_eq_true y1
        obtain rfl : false = TB := by
          rw [← HTM.out, decide_eq_false (show ¬ (a ≤ 8) by omega)]
          simp
        have hT := HT.out
        rw [if_pos rfl] at hT
        subst hT
        clear y0 y1 HTM HT
        go_wp2_with fail
        go_ret
        exact ⟨rfl, F.alloc _⟩
      have d1 : decide (8 < a) = false := decide_eq_false y1
      by_cases y2 : b < 0
      · have d2 : decide (b < 0) = true := decide_eq_true y2
        obtain rfl : false = TB := by
          rw [← HTM.out, decide_eq_false (show ¬ ((0 : Int) ≤ b) by omega)]
          simp
        have hT := HT.out
        rw [if_pos rfl] at hT
        subst hT
        clear y0 y1 y2 HTM HT
        go_wp2_with fail
        go_ret
        exact ⟨rfl, F.alloc _⟩
      have d2 : decide (b < 0) = false := decide_eq_false y2
      by_cases y3 : 8 < b
      · have d3 : decide (8 < b) = true := decide_eq_true y3
        obtain rfl : false = TB := by
          rw [← HTM.out, decide_eq_false (show ¬ (b ≤ 8) by omega)]
          simp
        have hT := HT.out
        rw [if_pos rfl] at hT
        subst hT
        clear y0 y1 y2 y3 HTM HT
        go_wp2_with fail
        go_ret
        exact ⟨rfl, F.alloc _⟩
      have d3 : decide (8 < b) = false := decide_eq_false y3
      obtain ⟨s, hs⟩ : ∃ s, s = a + b + 1 := ⟨_, rfl⟩
      have hw1 : wrap64 (a + b) = a + b := IntWalk.wrap64_in _ ⟨by omega, by omega⟩
      have hw2 : wrap64 (a + b + 1) = s := by rw [IntWalk.wrap64_in _ ⟨by omega, by omega⟩, hs]
      have HTM2 := HTM.out
      rw [← hs] at HTM2
      have HTM := Lib.hid HTM2
      clear HTM2 hs
      by_cases y4 : hd < s
      · have d4 : decide (hd < s) = true := decide_eq_true y4
        obtain rfl : false = TB := by
          rw [← HTM.out, decide_eq_false (show ¬ (s ≤ hd) by omega)]
          simp
        have hT := HT.out
        rw [if_pos rfl] at hT
        subst hT
        clear y0 y1 y2 y3 y4 HTM HT
        go_wp2_with fail
        go_ret
        exact ⟨rfl, F.alloc _⟩
      have d4 : decide (hd < s) = false := decide_eq_false y4
      by_cases y5 : 40 < hd
      · have d5 : decide (40 < hd) = true := decide_eq_true y5
        obtain rfl : false = TB := by
          rw [← HTM.out, decide_eq_false (show ¬ (hd ≤ 40) by omega)]
          simp
        have hT := HT.out
        rw [if_pos rfl] at hT
        subst hT
        clear y0 y1 y2 y3 y4 y5 HTM HT
        go_wp2_with fail
        go_ret
        exact ⟨rfl, F.alloc _⟩
      have d5 : decide (40 < hd) = false := decide_eq_false y5
      by_cases y6 : bu < 1
      · have d6 : decide (bu < 1) = true := decide_eq_true y6
        obtain rfl : false = TB := by
          rw [← HTM.out, decide_eq_false (show ¬ ((1 : Int) ≤ bu) by omega)]
          simp
        have hT := HT.out
        rw [if_pos rfl] at hT
        subst hT
        clear y0 y1 y2 y3 y4 y5 y6 HTM HT
        go_wp2_with fail
        go_ret
        exact ⟨rfl, F.alloc _⟩
      have d6 : decide (bu < 1) = false := decide_eq_false y6
      by_cases y7 : 1000000 < bu
      · have d7 : decide (1000000 < bu) = true := decide_eq_true y7
        obtain rfl : false = TB := by
          rw [← HTM.out, decide_eq_false (show ¬ (bu ≤ 1000000) by omega)]
          simp
        have hT := HT.out
        rw [if_pos rfl] at hT
        subst hT
        clear y0 y1 y2 y3 y4 y5 y6 y7 HTM HT
        go_wp2_with fail
        go_ret
        exact ⟨rfl, F.alloc _⟩
      have d7 : decide (1000000 < bu) = false := decide_eq_false y7
      obtain rfl : true = TB := by
        refine Eq.symm ?_
        rw [← HTM.out]
        simp only [Bool.and_eq_true, decide_eq_true_eq]
        omega
      have hT := HT.out
      rw [if_neg (by decide)] at hT
      subst hT
      clear y0 y1 y2 y3 y4 y5 y6 y7 HTM HT
      go_wp2_with fail
      go_ret
      exact ⟨rfl, F.alloc _⟩
end Go.Proofs.YtginfnbdnkgjbaaGreat


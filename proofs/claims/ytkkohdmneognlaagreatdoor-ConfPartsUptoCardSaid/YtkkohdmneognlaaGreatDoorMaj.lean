/- The contract of routeRight. -/
import Derived.Test.YtkkohdmneognlaaGreatDoorMai
import Derived.Deep.RegionHeld3
import Derived.Lib.AppendStr
namespace Go.Proofs.YtkkohdmneognlaaGreatDoor
open Go.RowKit

theorem routeB_of (l : List Sec) (js : List Jo) (sg : List Sg) (r : Rt) (he : isSecB sg.length r.entry = true) : routeB l js sg r =
    ((decide (r.exit = -1) || isSecB sg.length r.exit) && (decide (1 ≤ r.path.length) && (decide (r.path.length ≤ 8) && (hangsB l js (beyOk sg js r.entry) (beyS sg js r.entry) (beyE sg js r.entry) r.path &&
    (onceB ((List.replicate l.length false).set (apM sg r.entry).toNat true) r.path && ((clearB sg (r.path.take (r.path.length - 1)) && endB js sg r.exit (lastSt r.path)) && !(r.shunt && linedB l r.path))))))) := by
  unfold routeB beyOk beyS beyE apM
  rw [if_pos he, if_pos he, if_pos he, he, Bool.true_and, Bool.true_and]

set_option maxHeartbeats 8000000 in
theorem right_any (C : Cm) (r : Ro) (w : World) (h : C.Ok w) (hr : r.Ok w) (hj : jointsB C.l C.js = true) (hsg : ∀ s ∈ C.sg, isSecB C.l.length s.sec = true) :
    Calls Tryz.prog 90 #[C.val, r.val] w fun e w' => e = .returned (.bool (routeB C.l C.js C.sg r.rt)) ∧ Fr (fun _ => False) w w' := by
  have KE := fun W => hasg_any (A := C.A3) (c := C.c3) (n := C.sg.length) r.entry W
  have KX := fun W => hasg_any (A := C.A3) (c := C.c3) (n := C.sg.length) r.exit W
  have KH := fun W (f : Fr (fun _ => False) w W) => hangs_any C r W (h.fr f) (hr.fr f) hj
  have KO := fun W (f : Fr (fun _ => False) w W) ha hp => once_any C r W (h.fr f) (hr.fr f) ha hp
  have KN0 := fun W (f : Fr (fun _ => False) w W) hn hx => endr_any C r W (h.fr f) (hr.fr f) hn hx
  have KL := fun W (f : Fr (fun _ => False) w W) hp hl => lined_any C (c := r.c1) r.path W (h.fr f) hp (hr.path.fr f fun _ _ => id) hl
  have b1 := hr.b1
  have hRT : routeB C.l C.js C.sg r.rt = routeB C.l C.js C.sg ⟨r.entry, r.exit, r.path, r.flank, r.over, r.shunt⟩ := rfl
  cases he : isSecB C.sg.length r.entry
  · rw [hRT, show routeB C.l C.js C.sg ⟨r.entry, r.exit, r.path, r.flank, r.over, r.shunt⟩ = false by unfold routeB; rw [he, Bool.false_and]]
    rw [he] at KE
    clear he KX KH KO KN0 KL hRT
    unfold Cm.val Cm.arr Ro.val at *
    go_enter Tryz.func90, Tryz.ntmps90
    go_wp2_with fail
    refine (KE _).mono ?_
    rintro _ _ ⟨rfl, rfl⟩
    go_wp2_with fail
    go_ret
    exact ⟨rfl, ((Fr.refl _ _).alloc _).alloc _⟩
  have hap : isSecB C.l.length (apM C.sg r.entry) = true := by
    unfold apM
    rw [if_pos he]
    obtain ⟨k, hk, hkl⟩ := isSecB_true he
    rw [hk, sgAt_nat hkl]
    exact hsg _ (List.getElem_mem hkl)
  have KO1 := fun W f hp => KO W f hap hp
  clear KO
  have hps : hangsB C.l C.js (beyOk C.sg C.js r.entry) (beyS C.sg C.js r.entry) (beyE C.sg C.js r.entry) r.path = true → ∀ x ∈ r.path, isSecB C.l.length x.sec = true := by
    refine hangs_in hj _ _ _ _ ?_
    unfold beyOk beyS
    intro hb
    simp only [Bool.and_eq_true] at hb
    rw [if_pos hb.1]
    exact next_in hj hb.2
  rw [hRT, routeB_of _ _ _ _ he]
  dsimp only
  rw [he] at KE
  have HE := Lib.hid he
  clear he hap hRT hj hsg
  cases hxx : (decide (r.exit = -1) || isSecB C.sg.length r.exit)
  · rw [Bool.false_and]
    simp only [Bool.or_eq_false_iff, decide_eq_false_iff_not] at hxx
    obtain ⟨x1, x2⟩ := hxx
    rw [x2] at KX
    clear KH KO1 KN0 KL hps h hr
    unfold Cm.val Cm.arr Ro.val at *
    go_enter Tryz.func90, Tryz.ntmps90
    go_wp2_with fail
    refine (KE _).mono ?_
    rintro _ _ ⟨rfl, rfl⟩
    go_wp2_with fail
    refine (KX _).mono ?_
    rintro _ _ ⟨rfl, rfl⟩
    go_wp2_with fail
    go_ret
    exact ⟨rfl, ((Fr.refl _ _).alloc _).alloc _⟩
  rw [Bool.true_and]
  have hex : r.exit = -1 ∨ isSecB C.sg.length r.exit = true := by
    rcases Bool.or_eq_true_iff.1 hxx with e | e
    · exact .inl (by simpa using e)
    · exact .inr e
  have KN1 := fun W f hn => KN0 W f hn hex
  clear KN0
  have hl8 : r.path.length ≤ 9223372036854775807 := by omega
  have KL1 := fun W f hp => KL W f hp hl8
  clear KL
  clear hxx
  have KE : ∀ W, Calls Tryz.prog 97 #[.slice C.A3 C.sg.length C.c3, .int .i64 r.entry] W fun e w' => e = .returned (.bool true) ∧ Fr (fun _ => False) W w' := fun W => (KE W).mono fun e w' he => ⟨he.1, by rw [← he.2]; exact Fr.refl _ _⟩
  have KX : isSecB C.sg.length r.exit = true → ∀ W, Calls Tryz.prog 97 #[.slice C.A3 C.sg.length C.c3, .int .i64 r.exit] W fun e w' => e = .returned (.bool true) ∧ Fr (fun _ => False) W w' := fun hx W => (KX W).mono fun e w' he => ⟨by rw [he.1, hx], by rw [← he.2]; exact Fr.refl _ _⟩
  generalize hT : (decide (1 ≤ r.path.length) && (decide (r.path.length ≤ 8) && (hangsB C.l C.js (beyOk C.sg C.js r.entry) (beyS C.sg C.js r.entry) (beyE C.sg C.js r.entry) r.path && (onceB ((List.replicate C.l.length false).set (apM C.sg r.entry).toNat true) r.path && ((clearB C.sg (r.path.take (r.path.length - 1)) && endB C.js C.sg r.exit (lastSt r.path)) && !(r.shunt && linedB C.l r.path)))))) = T
  have HT := Lib.hid hT
  clear hT
  have HPS := Lib.hid hps
  clear hps hl8
  unfold Cm.val Cm.arr Ro.val at *
  go_enter Tryz.func90, Tryz.ntmps90
  go_wp2_with fail
  refine (KE _).mono ?_
  rintro _ w1 ⟨rfl, f1⟩
  have isp : Is w1 w.heap.size 75 C.arr := ((Is.new w _ _).alloc _).fr f1 id
  have isr : Is w1 (w.heap.size + 1) 43 #[.int .i64 r.entry, .int .i64 r.exit, .slice r.a1 r.path.length r.c1, .slice r.a2 r.flank.length r.c2, .slice r.a3 r.over.length r.c3, .bool r.shunt] := (is_new_at (by simp) _ _).fr f1 id
  have F := fr_nil (((Fr.refl (fun _ => False) w).alloc (.cells C.arr 75)).alloc (.cells #[.int .i64 r.entry, .int .i64 r.exit, .slice r.a1 r.path.length r.c1, .slice r.a2 r.flank.length r.c2, .slice r.a3 r.over.length r.c3, .bool r.shunt] 43)) f1
  clear KE f1
  have hex1 : r.exit = -1 ∨ (r.exit ≠ -1 ∧ isSecB C.sg.length r.exit = true) := by
    by_cases e : r.exit = -1
    · exact .inl e
    · exact .inr ⟨e, hex.resolve_left e⟩
  clear hex
  generalize r.exit = ex at *
  have hT := HT.out
  by_cases hn1 : 1 ≤ r.path.length
  rotate_left
  · have hn0 : r.path.length = 0 := by omega
    rw [show decide (1 ≤ r.path.length) = false by simp [hn0], Bool.false_and] at hT
    subst hT
    clear HT hn1 KN1
    rcases hex1 with hex | ⟨hex, hexs⟩
    · clear KX
      subst hex
      obtain ⟨p0, p1, p2, p3, p4, p5, p6, p7, p8⟩ := plan_cells isp
      obtain ⟨r0, r1, r2, r3, r4, r5⟩ := vals_cells isr
      rw [hn0] at r2

      go_wp2_with fail
      go_ret
      exact ⟨rfl, F⟩
    · obtain ⟨p0, p1, p2, p3, p4, p5, p6, p7, p8⟩ := plan_cells isp
      obtain ⟨r0, r1, r2, r3, r4, r5⟩ := vals_cells isr
      have KX := KX hexs
      clear hexs
      go_wp2_with fail
      refine (KX _).mono ?_
      rintro _ w2 ⟨rfl, f2⟩
      have isp := isp.fr f2 id
      have isr := isr.fr f2 id
      have F := fr_nil F f2
      clear f2 KX p0 p1 p2 p3 p4 p5 p6 p7 p8 r0 r1 r2 r3 r4 r5
      obtain ⟨p0, p1, p2, p3, p4, p5, p6, p7, p8⟩ := plan_cells isp
      obtain ⟨r0, r1, r2, r3, r4, r5⟩ := vals_cells isr
      rw [hn0] at r2

      go_wp2_with fail
      go_ret
      exact ⟨rfl, F⟩
  rw [show decide (1 ≤ r.path.length) = true by simp [hn1], Bool.true_and] at hT
  have z1 : ¬ ((r.path.length : Int) < 1) := by omega
  by_cases hn8 : r.path.length ≤ 8
  rotate_left
  · have z8 : (8 : Int) < (r.path.length : Int) := by omega
    rw [show decide (r.path.length ≤ 8) = false by simp [hn8], Bool.false_and] at hT
    subst hT
    clear HT
    rcases hex1 with hex | ⟨hex, hexs⟩
    · clear KX
      subst hex
      obtain ⟨p0, p1, p2, p3, p4, p5, p6, p7, p8⟩ := plan_cells isp
      obtain ⟨r0, r1, r2, r3, r4, r5⟩ := vals_cells isr

      go_wp2_with fail
      go_ret
      exact ⟨rfl, F⟩
    · obtain ⟨p0, p1, p2, p3, p4, p5, p6, p7, p8⟩ := plan_cells isp
      obtain ⟨r0, r1, r2, r3, r4, r5⟩ := vals_cells isr
      have KX := KX hexs
      clear hexs
      go_wp2_with fail
      refine (KX _).mono ?_
      rintro _ w2 ⟨rfl, f2⟩
      have isp := isp.fr f2 id
      have isr := isr.fr f2 id
      have F := fr_nil F f2
      clear f2 KX p0 p1 p2 p3 p4 p5 p6 p7 p8 r0 r1 r2 r3 r4 r5
      obtain ⟨p0, p1, p2, p3, p4, p5, p6, p7, p8⟩ := plan_cells isp
      obtain ⟨r0, r1, r2, r3, r4, r5⟩ := vals_cells isr

      go_wp2_with fail
      go_ret
      exact ⟨rfl, F⟩
  rw [show decide (r.path.length ≤ 8) = true by simp [hn8], Bool.true_and] at hT
  clear HT
  have HT := Lib.hid hT
  clear hT
  have KN := fun W f => KN1 W f hn1
  clear KN1
  have z8 : ¬ ((8 : Int) < (r.path.length : Int)) := by omega
  rcases hex1 with hex | ⟨hex, hexs⟩
  · clear KX
    subst hex
    obtain ⟨p0, p1, p2, p3, p4, p5, p6, p7, p8⟩ := plan_cells isp
    obtain ⟨r0, r1, r2, r3, r4, r5⟩ := vals_cells isr

    go_wp2_with fail
    all_goals try (exfalso; omega)
    clear p0 p1 p2 p3 p4 p5 p6 p7 p8 r0 r1 r2 r3 r4 r5
    try clear hex
    refine (KH _ F).mono ?_
    rintro _ w4 ⟨rfl, f4⟩
    have isp := isp.fr f4 id
    have isr := isr.fr f4 id
    have F := fr_nil F f4
    have hT := HT.out
    clear f4 KH HT
    cases hb4 : hangsB C.l C.js (beyOk C.sg C.js r.entry) (beyS C.sg C.js r.entry) (beyE C.sg C.js r.entry) r.path
    · rw [hb4, Bool.false_and] at hT
      subst hT
      clear hb4
      go_wp2_with fail
      go_ret
      exact ⟨rfl, F⟩
    rw [hb4, Bool.true_and] at hT
    have HT := Lib.hid hT
    have hps := HPS.out hb4
    have KO := fun W f => KO1 W f hps
    have KL := fun W f => KL1 W f hps
    clear KO1 KL1
    have HP2 := Lib.hid hps
    clear hps HPS hb4 hT
    obtain ⟨p0, p1, p2, p3, p4, p5, p6, p7, p8⟩ := plan_cells isp
    obtain ⟨r0, r1, r2, r3, r4, r5⟩ := vals_cells isr
    go_wp2_with fail
    clear p0 p1 p2 p3 p4 p5 p6 p7 p8 r0 r1 r2 r3 r4 r5
    refine (KO _ F).mono ?_
    rintro _ w5 ⟨rfl, f5⟩
    have isp := isp.fr f5 id
    have isr := isr.fr f5 id
    have F := fr_nil F f5
    have hT := HT.out
    clear f5 KO HT
    cases hb5 : onceB ((List.replicate C.l.length false).set (apM C.sg r.entry).toNat true) r.path
    · rw [hb5, Bool.false_and] at hT
      subst hT
      clear hb5
      go_wp2_with fail
      go_ret
      exact ⟨rfl, F⟩
    rw [hb5, Bool.true_and] at hT
    have HT := Lib.hid hT
    clear hb5 hT
    obtain ⟨p0, p1, p2, p3, p4, p5, p6, p7, p8⟩ := plan_cells isp
    obtain ⟨r0, r1, r2, r3, r4, r5⟩ := vals_cells isr
    go_wp2_with fail
    clear p0 p1 p2 p3 p4 p5 p6 p7 p8 r0 r1 r2 r3 r4 r5
    refine (KN _ F).mono ?_
    rintro _ w6 ⟨rfl, f6⟩
    have isp := isp.fr f6 id
    have isr := isr.fr f6 id
    have F := fr_nil F f6
    have hT := HT.out
    clear f6 KN HT
    cases hb6 : (clearB C.sg (r.path.take (r.path.length - 1)) && endB C.js C.sg (-1) (lastSt r.path))
    · rw [hb6, Bool.false_and] at hT
      subst hT
      clear hb6
      go_wp2_with fail
      go_ret
      exact ⟨rfl, F⟩
    rw [hb6, Bool.true_and] at hT
    have HT := Lib.hid hT
    clear hb6 HT
    obtain ⟨p0, p1, p2, p3, p4, p5, p6, p7, p8⟩ := plan_cells isp
    obtain ⟨r0, r1, r2, r3, r4, r5⟩ := vals_cells isr
    cases hsh : r.shunt
    · rw [hsh, Bool.false_and, Bool.not_false] at hT
      subst hT
      rw [hsh] at r5
      go_wp2_with fail
      go_ret
      exact ⟨rfl, F⟩
    · rw [hsh, Bool.true_and] at hT
      rw [hsh] at r5
      clear hsh
      go_wp2_with fail
      refine (KL _ F).mono ?_
      rintro _ w7 ⟨rfl, f7⟩
      have F := fr_nil F f7
      clear p0 p1 p2 p3 p4 p5 p6 p7 p8 r0 r1 r2 r3 r4 r5 f7
      cases hb7 : linedB C.l r.path
      all_goals
        rw [hb7] at hT
        subst hT
        clear hb7
        go_wp2_with fail
        go_ret
        exact ⟨rfl, F⟩
  · obtain ⟨p0, p1, p2, p3, p4, p5, p6, p7, p8⟩ := plan_cells isp
    obtain ⟨r0, r1, r2, r3, r4, r5⟩ := vals_cells isr
    have KX := KX hexs
    clear hexs
    go_wp2_with fail
    refine (KX _).mono ?_
    rintro _ w2 ⟨rfl, f2⟩
    have isp := isp.fr f2 id
    have isr := isr.fr f2 id
    have F := fr_nil F f2
    clear f2 KX p0 p1 p2 p3 p4 p5 p6 p7 p8 r0 r1 r2 r3 r4 r5
    obtain ⟨p0, p1, p2, p3, p4, p5, p6, p7, p8⟩ := plan_cells isp
    obtain ⟨r0, r1, r2, r3, r4, r5⟩ := vals_cells isr

    go_wp2_with fail
    all_goals try (exfalso; omega)
    clear p0 p1 p2 p3 p4 p5 p6 p7 p8 r0 r1 r2 r3 r4 r5
    try clear hex
    refine (KH _ F).mono ?_
    rintro _ w4 ⟨rfl, f4⟩
    have isp := isp.fr f4 id
    have isr := isr.fr f4 id
    have F := fr_nil F f4
    have hT := HT.out
    clear f4 KH HT
    cases hb4 : hangsB C.l C.js (beyOk C.sg C.js r.entry) (beyS C.sg C.js r.entry) (beyE C.sg C.js r.entry) r.path
    · rw [hb4, Bool.false_and] at hT
      subst hT
      clear hb4
      go_wp2_with fail
      go_ret
      exact ⟨rfl, F⟩
    rw [hb4, Bool.true_and] at hT
    have HT := Lib.hid hT
    have hps := HPS.out hb4
    have KO := fun W f => KO1 W f hps
    have KL := fun W f => KL1 W f hps
    clear KO1 KL1
    have HP2 := Lib.hid hps
    clear hps HPS hb4 hT
    obtain ⟨p0, p1, p2, p3, p4, p5, p6, p7, p8⟩ := plan_cells isp
    obtain ⟨r0, r1, r2, r3, r4, r5⟩ := vals_cells isr
    go_wp2_with fail
    clear p0 p1 p2 p3 p4 p5 p6 p7 p8 r0 r1 r2 r3 r4 r5
    refine (KO _ F).mono ?_
    rintro _ w5 ⟨rfl, f5⟩
    have isp := isp.fr f5 id
    have isr := isr.fr f5 id
    have F := fr_nil F f5
    have hT := HT.out
    clear f5 KO HT
    cases hb5 : onceB ((List.replicate C.l.length false).set (apM C.sg r.entry).toNat true) r.path
    · rw [hb5, Bool.false_and] at hT
      subst hT
      clear hb5
      go_wp2_with fail
      go_ret
      exact ⟨rfl, F⟩
    rw [hb5, Bool.true_and] at hT
    have HT := Lib.hid hT
    clear hb5 hT
    obtain ⟨p0, p1, p2, p3, p4, p5, p6, p7, p8⟩ := plan_cells isp
    obtain ⟨r0, r1, r2, r3, r4, r5⟩ := vals_cells isr
    go_wp2_with fail
    clear p0 p1 p2 p3 p4 p5 p6 p7 p8 r0 r1 r2 r3 r4 r5
    refine (KN _ F).mono ?_
    rintro _ w6 ⟨rfl, f6⟩
    have isp := isp.fr f6 id
    have isr := isr.fr f6 id
    have F := fr_nil F f6
    have hT := HT.out
    clear f6 KN HT
    cases hb6 : (clearB C.sg (r.path.take (r.path.length - 1)) && endB C.js C.sg ex (lastSt r.path))
    · rw [hb6, Bool.false_and] at hT
      subst hT
      clear hb6
      go_wp2_with fail
      go_ret
      exact ⟨rfl, F⟩
    rw [hb6, Bool.true_and] at hT
    have HT := Lib.hid hT
    clear hb6 HT
    obtain ⟨p0, p1, p2, p3, p4, p5, p6, p7, p8⟩ := plan_cells isp
    obtain ⟨r0, r1, r2, r3, r4, r5⟩ := vals_cells isr
    cases hsh : r.shunt
    · rw [hsh, Bool.false_and, Bool.not_false] at hT
      subst hT
      rw [hsh] at r5
      go_wp2_with fail
      go_ret
      exact ⟨rfl, F⟩
    · rw [hsh, Bool.true_and] at hT
      rw [hsh] at r5
      clear hsh
      go_wp2_with fail
      refine (KL _ F).mono ?_
      rintro _ w7 ⟨rfl, f7⟩
      have F := fr_nil F f7
      clear p0 p1 p2 p3 p4 p5 p6 p7 p8 r0 r1 r2 r3 r4 r5 f7
      cases hb7 : linedB C.l r.path
      all_goals
        rw [hb7] at hT
        subst hT
        clear hb7
        go_wp2_with fail
        go_ret
        exact ⟨rfl, F⟩
end Go.Proofs.YtkkohdmneognlaaGreatDoor
/- The contract of checkRoutes. -/
namespace Go.Proofs.YtkkohdmneognlaaGreatDoor
open Go.RowKit

set_option maxRecDepth 4000 in
set_option maxHeartbeats 8000000 in
theorem croutes_any (C : Cm) (w : World) (h : C.Ok w) (hj : jointsB C.l C.js = true) (hsg : ∀ s ∈ C.sg, isSecB C.l.length s.sec = true) (hl12 : C.rs.length ≤ 12) :
    Calls Tryz.prog 40 #[C.val] w fun e w' => e = .returned (.int .i64 (routesE C.l C.js C.sg (C.rs.map Ro.rt))) ∧ Fr (fun _ => False) w w' := by
  have z12 : ((12 : Int) < (C.rs.length : Int)) = False := by simp; omega
  have KR := fun r W (f : Fr (fun _ => False) w W) (hr : Ro.Ok W r) => right_any C r W (h.fr f) hr hj hsg
  have KA := fun r W (f : Fr (fun _ => False) w W) => approach_any C r W (h.fr f)
  have KF := fun (r : Ro) ap W (f : Fr (fun _ => False) w W) (hr : Ro.Ok W r) => flank_any C ap (c := r.c1) r.path W (h.fr f) hr.path (by have := hr.b1; omega)
  have KO := fun r W (f : Fr (fun _ => False) w W) (hr : Ro.Ok W r) => overlap_any C r W (h.fr f) hr
  have hb5 := h.b5
  generalize hT : routesE C.l C.js C.sg (C.rs.map Ro.rt) = T
  have HT := Lib.hid hT
  clear hT hj hsg
  unfold Cm.val Cm.arr Ro.val at *
  go_enter Tryz.func40, Tryz.ntmps40
  go_wp2_with fail
  clear z12
  go_loopw [14] (fun v14 wr => ∃ k : Nat, k ≤ C.rs.length ∧ v14 = .int .i64 (k : Nat) ∧ routesE C.l C.js C.sg ((C.rs.drop k).map Ro.rt) = T ∧ Is wr w.heap.size 75 C.arr ∧ Fr (fun _ => False) w wr) (fun i _ => C.rs.length - (intOf i).toNat)
  case atStart => exact ⟨0, Nat.zero_le _, rfl, HT.out, Is.new w _ _, (Fr.refl _ _).alloc _⟩
  case round =>
    clear HT
    obtain ⟨k, hk, rfl, hT, isp, fr⟩ := hrel
    by_cases hlt : k < C.rs.length
    · obtain ⟨ga, oa, ha, q0, q1, q2, q3, q4, q5⟩ := rd_ro (h.rts.fr fr fun _ _ => id) hlt
      have hro : C.rs[k].Ok w := h.each _ (List.getElem_mem hlt)
      rw [List.drop_eq_getElem_cons hlt, List.map_cons, routesE] at hT
      generalize hrest : routesE C.l C.js C.sg ((C.rs.drop (k + 1)).map Ro.rt) = rest at *
      have HR := Lib.hid hrest
      clear hrest
      generalize C.rs[k] = r at *
      have hT : (if routeB C.l C.js C.sg r.rt = false then 9 else if r.flank ≠ flankM C.l C.js (apM C.sg r.entry) r.path then 10 else if r.over ≠ overM C.l C.js C.sg r.rt then 11 else rest) = T := hT
      have KR := fun W f hr => KR r W f hr
      have KA := fun W f => KA r W f
      have KF := fun W f hr => KF r (apM C.sg r.entry) W f hr
      have KO := fun W f hr => KO r W f hr
      have isp1 := isp.alloc (.cells #[.int .i64 r.entry, .int .i64 r.exit, .slice r.a1 r.path.length r.c1, .slice r.a2 r.flank.length r.c2, .slice r.a3 r.over.length r.c3, .bool r.shunt] 43)
      have isl : Is (wr.alloc (.cells #[.int .i64 r.entry, .int .i64 r.exit, .slice r.a1 r.path.length r.c1, .slice r.a2 r.flank.length r.c2, .slice r.a3 r.over.length r.c3, .bool r.shunt] 43)) wr.heap.size 43 #[.int .i64 r.entry, .int .i64 r.exit, .slice r.a1 r.path.length r.c1, .slice r.a2 r.flank.length r.c2, .slice r.a3 r.over.length r.c3, .bool r.shunt] := Is.new wr _ _
      have F1 := fr.alloc (.cells #[.int .i64 r.entry, .int .i64 r.exit, .slice r.a1 r.path.length r.c1, .slice r.a2 r.flank.length r.c2, .slice r.a3 r.over.length r.c3, .bool r.shunt] 43)
      obtain ⟨p0, p1, p2, p3, p4, p5, p6, p7, p8⟩ := plan_cells isp1
      obtain ⟨r0, r1, r2, r3, r4, r5⟩ := ro_cells isl
      have hro1 := hro.fr F1
      rw [ha]
      have HA := Lib.hid ha
      clear ha
      go_wp2_with fail
      refine (KR _ F1 hro1).mono ?_
      rintro _ w2 ⟨rfl, f2⟩
      have isp2 := isp1.fr f2 id
      have isl2 := isl.fr f2 id
      have F2 := fr_nil F1 f2
      have hro2 := hro1.fr f2
      clear p0 p1 p2 p3 p4 p5 p6 p7 p8 r0 r1 r2 r3 r4 r5 q0 q1 q2 q3 q4 q5 isp1 isl F1 hro1 f2 KR
      cases hb : routeB C.l C.js C.sg r.rt
      · rw [if_pos hb] at hT
        subst hT
        clear hb
        go_wp2_with fail
        go_ret
        exact ⟨rfl, F2⟩
      rw [if_neg (by rw [hb]; decide)] at hT
      have HT := Lib.hid hT
      clear hT hb
      go_upto_region 8 with (fail)
      generalize wr.heap.size = bl at *
      refine wp_region_held_drew (S := fun Wx => (Wx.cell? ⟨w.heap.size, 0, none⟩ = some (.slice C.A1 C.l.length C.c1) ∧ Wx.cell? ⟨w.heap.size, 1, none⟩ = some (.slice C.A2 C.js.length C.c2) ∧ Wx.cell? ⟨w.heap.size, 2, none⟩ = some (.slice C.A3 C.sg.length C.c3) ∧ Wx.cell? ⟨w.heap.size, 3, none⟩ = some (.slice C.A4 C.cr.length C.c4) ∧ Wx.cell? ⟨w.heap.size, 4, none⟩ = some (.slice C.A5 C.rs.length C.c5) ∧ Wx.cell? ⟨w.heap.size, 5, none⟩ = some (.int .i64 C.tm.age) ∧ Wx.cell? ⟨w.heap.size, 6, none⟩ = some (.int .i64 C.tm.brake) ∧ Wx.cell? ⟨w.heap.size, 7, none⟩ = some (.int .i64 C.tm.hold) ∧ Wx.cell? ⟨w.heap.size, 8, none⟩ = some (.int .i64 C.tm.budget)) ∧ (Wx.cell? ⟨bl, 0, none⟩ = some (.int .i64 r.entry) ∧ Wx.cell? ⟨bl, 1, none⟩ = some (.int .i64 r.exit) ∧ Wx.cell? ⟨bl, 2, none⟩ = some (.slice r.a1 r.path.length r.c1) ∧ Wx.cell? ⟨bl, 3, none⟩ = some (.slice r.a2 r.flank.length r.c2) ∧ Wx.cell? ⟨bl, 4, none⟩ = some (.slice r.a3 r.over.length r.c3) ∧ Wx.cell? ⟨bl, 5, none⟩ = some (.bool r.shunt))) (by kernel_rfl) ⟨plan_cells isp2, ro_cells isl2⟩ (fun hHeld => ?_)
      refine wpAnyH_take (i := 0) (v := ?_) rfl (by kernel_rfl) (by kernel_rfl) (by kernel_rfl) (fun _ _ _ h => h) (Or.inl ⟨by rfl, ?_⟩) (by assumption) ?_
      rotate_left
      · intro Wx hSw
        try dsimp only at hSw
        go_simp
        try with_reducible rfl
      try simp only [Act.put]
      refine wpAnyH_take (i := 1) (v := ?_) rfl (by kernel_rfl) (by kernel_rfl) (by kernel_rfl) (fun _ _ _ h => h) (Or.inl ⟨by rfl, ?_⟩) (by assumption) ?_
      rotate_left
      · intro Wx hSw
        try dsimp only at hSw
        go_simp
        try with_reducible rfl
      try simp only [Act.put]
      refine wpAnyH_take (i := 2) (v := ?_) rfl (by kernel_rfl) (by kernel_rfl) (by kernel_rfl) (fun _ _ _ h => h) (Or.inl ⟨by rfl, ?_⟩) (by assumption) ?_
      rotate_left
      · intro Wx hSw
        try dsimp only at hSw
        go_simp
        try with_reducible rfl
      try simp only [Act.put]
      refine wpAnyH_take (i := 3) (v := ?_) rfl (by kernel_rfl) (by kernel_rfl) (by kernel_rfl) (fun _ _ _ h => h) (Or.inl ⟨by rfl, ?_⟩) (by assumption) ?_
      rotate_left
      · intro Wx hSw
        try dsimp only at hSw
        go_simp
        try with_reducible rfl
      try simp only [Act.put]
      refine wpAnyH_take (i := 4) (v := ?_) rfl (by kernel_rfl) (by kernel_rfl) (by kernel_rfl) (fun _ _ _ h => h) (Or.inl ⟨by rfl, ?_⟩) (by assumption) ?_
      rotate_left
      · intro Wx hSw
        try dsimp only at hSw
        go_simp
        try with_reducible rfl
      try simp only [Act.put]
      refine wpAnyH_take (i := 5) (v := ?_) rfl (by kernel_rfl) (by kernel_rfl) (by kernel_rfl) (fun _ _ _ h => h) (Or.inl ⟨by rfl, ?_⟩) (by assumption) ?_
      rotate_left
      · intro Wx hSw
        try dsimp only at hSw
        go_simp
        try with_reducible rfl
      try simp only [Act.put]
      refine wpAnyH_take (i := 7) (v := ?_) rfl (by kernel_rfl) (by kernel_rfl) (by kernel_rfl) (fun _ _ _ h => h) (Or.inl ⟨by rfl, ?_⟩) (by assumption) ?_
      rotate_left
      · intro Wx hSw
        try dsimp only at hSw
        go_simp
        try with_reducible rfl
      try simp only [Act.put]
      refine wpAnyH_take (i := 8) (v := ?_) rfl (by kernel_rfl) (by kernel_rfl) (by kernel_rfl) (fun _ _ _ h => h) (Or.inl ⟨by rfl, ?_⟩) (by assumption) ?_
      rotate_left
      · intro Wx hSw
        try dsimp only at hSw
        go_simp
        try with_reducible rfl
      try simp only [Act.put]
      refine wpAnyH_ready (rs := [6]) (by kernel_rfl) (by simp) (AllReadyH.cons rfl (fun K hK => ?_) AllReadyH.nil)
      go_simp
      refine (KA _ F2.drew).mono ?_
      rintro e w4 ⟨rfl, f4⟩
      have isl4 := isl2.drew.fr f4 id
      have isp4 := isp2.drew.fr f4 id
      have F4 := fr_nil F2.drew f4
      have hro4 := (hro2.drewN 1).fr f4
      go_simp
      refine hK.out _ _ ⟨plan_cells isp4, ro_cells isl4⟩ (fun hHeld => ?_)
      clear hK K KA isp2 isl2 F2 hro2 f4
      refine wpAnyH_ready (rs := [9]) (by kernel_rfl) (by simp) (AllReadyH.cons rfl (fun K hK => ?_) AllReadyH.nil)
      go_simp
      refine (KF _ F4 hro4).mono ?_
      rintro e w5 ⟨A, cA, rfl, hown, f5⟩
      have isl5 := isl4.fr f5 id
      have isp5 := isp4.fr f5 id
      have F5 := fr_nil F4 f5
      have hro5 := hro4.fr f5
      go_simp
      refine hK.out _ _ ⟨plan_cells isp5, ro_cells isl5⟩ (fun hHeld => ?_)
      obtain ⟨_, _, _, hn1, hn2, _, _⟩ := wide_form hown
      have hrd := wide_rd hown
      have hlen : (flankM C.l C.js (apM C.sg r.entry) r.path).length ≤ 9223372036854775807 := Nat.le_trans (Nat.le_trans hn1 hn2) (by decide)
      have KE := fun W (f : Fr (fun _ => False) w5 W) => nequal_any (c := r.c2) (c' := cA) W (hro5.flank.fr f fun _ _ => id) (hrd.fr f fun _ _ => id) hlen
      clear hK K KF isp4 isl4 F4 hro4 f5 hown hn1 hn2 hrd hlen
      generalize flankM C.l C.js (apM C.sg r.entry) r.path = L at KE HT ⊢
      refine wpAnyH_ready (rs := [10]) (by kernel_rfl) (by simp) (AllReadyH.cons rfl (fun K hK => ?_) AllReadyH.nil)
      go_simp
      refine (KE _ (Fr.refl _ _)).mono ?_
      rintro e w6 ⟨rfl, f6⟩
      have isl6 := isl5.fr f6 id
      have isp6 := isp5.fr f6 id
      have F6 := fr_nil F5 f6
      have hro6 := hro5.fr f6
      go_simp
      refine hK.out _ _ ⟨plan_cells isp6, ro_cells isl6⟩ (fun hHeld => ?_)
      clear hK K KE isp5 isl5 F5 hro5 f6
      refine wpAnyH_take (i := 11) (v := ?_) rfl (by kernel_rfl) (by kernel_rfl) (by kernel_rfl) (fun _ _ _ h => h) (Or.inl ⟨by rfl, ?_⟩) (by assumption) ?_
      rotate_left
      · intro Wx hSw
        try dsimp only at hSw
        go_simp
        try with_reducible rfl
      try simp only [Act.put]
      refine wpAnyH_ready (rs := [12]) (by kernel_rfl) (by simp) (AllReadyH.cons rfl (fun K hK => ?_) AllReadyH.nil)
      go_simp
      refine hK.out _ _ ⟨plan_cells isp6, ro_cells isl6⟩ (fun hHeld => ?_)
      clear hK K
      refine wpAnyH_done (by kernel_rfl) ?_ _
      have hT := HT.out
      clear HT hHeld
      by_cases hfl : r.flank = L
      rotate_left
      · rw [if_pos hfl] at hT
        subst hT
        rw [show decide (r.flank = L) = false by simp [hfl]]
        clear hfl
        go_wp2_with fail
        go_ret
        exact ⟨rfl, F6⟩
      rw [if_neg (by simp [hfl])] at hT
      rw [show decide (r.flank = L) = true by simp [hfl]]
      have HT := Lib.hid hT
      clear hT hfl
      go_upto_region 10 with (fail)
      refine wp_region_held_drew (S := fun Wx => (Wx.cell? ⟨w.heap.size, 0, none⟩ = some (.slice C.A1 C.l.length C.c1) ∧ Wx.cell? ⟨w.heap.size, 1, none⟩ = some (.slice C.A2 C.js.length C.c2) ∧ Wx.cell? ⟨w.heap.size, 2, none⟩ = some (.slice C.A3 C.sg.length C.c3) ∧ Wx.cell? ⟨w.heap.size, 3, none⟩ = some (.slice C.A4 C.cr.length C.c4) ∧ Wx.cell? ⟨w.heap.size, 4, none⟩ = some (.slice C.A5 C.rs.length C.c5) ∧ Wx.cell? ⟨w.heap.size, 5, none⟩ = some (.int .i64 C.tm.age) ∧ Wx.cell? ⟨w.heap.size, 6, none⟩ = some (.int .i64 C.tm.brake) ∧ Wx.cell? ⟨w.heap.size, 7, none⟩ = some (.int .i64 C.tm.hold) ∧ Wx.cell? ⟨w.heap.size, 8, none⟩ = some (.int .i64 C.tm.budget)) ∧ (Wx.cell? ⟨bl, 0, none⟩ = some (.int .i64 r.entry) ∧ Wx.cell? ⟨bl, 1, none⟩ = some (.int .i64 r.exit) ∧ Wx.cell? ⟨bl, 2, none⟩ = some (.slice r.a1 r.path.length r.c1) ∧ Wx.cell? ⟨bl, 3, none⟩ = some (.slice r.a2 r.flank.length r.c2) ∧ Wx.cell? ⟨bl, 4, none⟩ = some (.slice r.a3 r.over.length r.c3) ∧ Wx.cell? ⟨bl, 5, none⟩ = some (.bool r.shunt))) (by kernel_rfl) ⟨plan_cells isp6, ro_cells isl6⟩ (fun hHeld => ?_)
      refine wpAnyH_take (i := 0) (v := ?_) rfl (by kernel_rfl) (by kernel_rfl) (by kernel_rfl) (fun _ _ _ h => h) (Or.inl ⟨by rfl, ?_⟩) (by assumption) ?_
      rotate_left
      · intro Wx hSw
        try dsimp only at hSw
        go_simp
        try with_reducible rfl
      try simp only [Act.put]
      refine wpAnyH_take (i := 1) (v := ?_) rfl (by kernel_rfl) (by kernel_rfl) (by kernel_rfl) (fun _ _ _ h => h) (Or.inl ⟨by rfl, ?_⟩) (by assumption) ?_
      rotate_left
      · intro Wx hSw
        try dsimp only at hSw
        go_simp
        try with_reducible rfl
      try simp only [Act.put]
      refine wpAnyH_take (i := 2) (v := ?_) rfl (by kernel_rfl) (by kernel_rfl) (by kernel_rfl) (fun _ _ _ h => h) (Or.inl ⟨by rfl, ?_⟩) (by assumption) ?_
      rotate_left
      · intro Wx hSw
        try dsimp only at hSw
        go_simp
        try with_reducible rfl
      try simp only [Act.put]
      refine wpAnyH_take (i := 3) (v := ?_) rfl (by kernel_rfl) (by kernel_rfl) (by kernel_rfl) (fun _ _ _ h => h) (Or.inl ⟨by rfl, ?_⟩) (by assumption) ?_
      rotate_left
      · intro Wx hSw
        try dsimp only at hSw
        go_simp
        try with_reducible rfl
      try simp only [Act.put]
      refine wpAnyH_take (i := 4) (v := ?_) rfl (by kernel_rfl) (by kernel_rfl) (by kernel_rfl) (fun _ _ _ h => h) (Or.inl ⟨by rfl, ?_⟩) (by assumption) ?_
      rotate_left
      · intro Wx hSw
        try dsimp only at hSw
        go_simp
        try with_reducible rfl
      try simp only [Act.put]
      refine wpAnyH_ready (rs := [5]) (by kernel_rfl) (by simp) (AllReadyH.cons rfl (fun K hK => ?_) AllReadyH.nil)
      go_simp
      refine (KO _ F6.drew (hro6.drewN 1)).mono ?_
      rintro e w7 ⟨A2, cA2, rfl, hown, f7⟩
      have isl7 := isl6.drew.fr f7 id
      have isp7 := isp6.drew.fr f7 id
      have F7 := fr_nil F6.drew f7
      have hro7 := (hro6.drewN 1).fr f7
      go_simp
      refine hK.out _ _ ⟨plan_cells isp7, ro_cells isl7⟩ (fun hHeld => ?_)
      obtain ⟨_, _, _, hn1, hn2, _, _⟩ := wide_form hown
      have hrd := wide_rd hown
      have hlen : (overM C.l C.js C.sg r.rt).length ≤ 9223372036854775807 := Nat.le_trans (Nat.le_trans hn1 hn2) (by decide)
      have KE := fun W (f : Fr (fun _ => False) w7 W) => iequal_any (c := r.c3) (c' := cA2) W (hro7.over.fr f fun _ _ => id) (hrd.fr f fun _ _ => id) (by have := hro7.b3; omega) hlen
      clear hK K KO isp6 isl6 F6 hro6 f7 hown hn1 hn2 hrd hlen
      generalize overM C.l C.js C.sg r.rt = L2 at KE HT ⊢
      refine wpAnyH_ready (rs := [6]) (by kernel_rfl) (by simp) (AllReadyH.cons rfl (fun K hK => ?_) AllReadyH.nil)
      go_simp
      refine (KE _ (Fr.refl _ _)).mono ?_
      rintro e w8 ⟨rfl, f8⟩
      have isl8 := isl7.fr f8 id
      have isp8 := isp7.fr f8 id
      have F8 := fr_nil F7 f8
      go_simp
      refine hK.out _ _ ⟨plan_cells isp8, ro_cells isl8⟩ (fun hHeld => ?_)
      clear hK K KE isp7 isl7 F7 hro7 f8
      refine wpAnyH_take (i := 7) (v := ?_) rfl (by kernel_rfl) (by kernel_rfl) (by kernel_rfl) (fun _ _ _ h => h) (Or.inl ⟨by rfl, ?_⟩) (by assumption) ?_
      rotate_left
      · intro Wx hSw
        try dsimp only at hSw
        go_simp
        try with_reducible rfl
      try simp only [Act.put]
      refine wpAnyH_ready (rs := [8]) (by kernel_rfl) (by simp) (AllReadyH.cons rfl (fun K hK => ?_) AllReadyH.nil)
      go_simp
      refine hK.out _ _ ⟨plan_cells isp8, ro_cells isl8⟩ (fun hHeld => ?_)
      clear hK K
      refine wpAnyH_done (by kernel_rfl) ?_ _
      have hT := HT.out
      clear HT hHeld
      by_cases hov : r.over = L2
      rotate_left
      · rw [if_pos hov] at hT
        subst hT
        rw [show decide (r.over = L2) = false by simp [hov]]
        clear hov
        go_wp2_with fail
        go_ret
        exact ⟨rfl, F8⟩
      rw [if_neg (by simp [hov])] at hT
      rw [show decide (r.over = L2) = true by simp [hov]]
      have HT := Lib.hid hT
      clear hT hov
      go_wp2_with fail
      go_roundw
      case rel => exact ⟨k + 1, by omega, by go_num, by rw [HR.out]; exact HT.out, isp8, F8⟩
      case measure => simp [intOf]; omega
    · rw [List.drop_eq_nil_of_le (by omega)] at hT
      obtain rfl : T = 0 := by rw [← hT]; rfl
      go_wp2_with fail
      go_ret
      exact ⟨rfl, fr⟩
end Go.Proofs.YtkkohdmneognlaaGreatDoor
/- The contract of Check. -/
namespace Go.Proofs.YtkkohdmneognlaaGreatDoor
open Go.RowKit

set_option maxHeartbeats 4000000 in
theorem croutes_many (C : Cm) (w : World) (hl12 : ¬ C.rs.length ≤ 12) :
    Calls Tryz.prog 40 #[C.val] w fun e w' => e = .returned (.int .i64 9) ∧ Fr (fun _ => False) w w' := by
  have z12 : ((12 : Int) < (C.rs.length : Int)) = True := by simp; omega
  unfold Cm.val Cm.arr at *
  go_enter Tryz.func40, Tryz.ntmps40
  go_wp2_with fail
  go_ret
  exact ⟨rfl, (Fr.refl _ _).alloc _⟩

theorem sigs_in {l : List Sec} {js : List Jo} (hj : jointsB l js = true) : ∀ (sg : List Sg), sigsB js sg = true → ∀ s ∈ sg, isSecB l.length s.sec = true
  | [], _, s, hs => by simp at hs
  | x :: r, h, s, hs => by
    unfold sigsB at h
    simp only [Bool.and_eq_true] at h
    rcases List.mem_cons.1 hs with e | hs
    · subst e
      exact ends_in hj h.1
    · exact sigs_in hj r h.2.2 s hs
theorem croutes_out (C : Cm) (w : World) (h : C.Ok w) (hj : jointsB C.l C.js = true) (hsg : ∀ s ∈ C.sg, isSecB C.l.length s.sec = true) :
    Calls Tryz.prog 40 #[C.val] w fun e w' => e = .returned (.int .i64 (if ¬ C.rs.length ≤ 12 then 9 else routesE C.l C.js C.sg (C.rs.map Ro.rt))) ∧ Fr (fun _ => False) w w' := by
  by_cases hl : C.rs.length ≤ 12
  · rw [if_neg (by simpa using hl)]
    exact croutes_any C w h hj hsg hl
  · rw [if_pos hl]
    exact croutes_many C w hl

set_option maxRecDepth 4000 in
set_option maxHeartbeats 8000000 in
theorem chk_any (C : Cm) (w : World) (h : C.Ok w) :
    Calls Tryz.prog 12 #[C.val] w fun e w' => e = .returned (.int .i64 (checkE C.cf)) ∧ Fr (fun _ => False) w w' := by
  have b1 := h.b1
  have k2 := h.k2
  have l2 := h.l2
  have KT := fun W (f : Fr (fun _ => False) w W) => check_any (c1 := C.c1) (c2 := C.c2) W (h.secs.fr f fun _ _ => id) (h.jos.fr f fun _ _ => id) (by omega) l2 k2
  have KS := fun W (f : Fr (fun _ => False) w W) => signals_any C W (h.fr f)
  have KC := fun W (f : Fr (fun _ => False) w W) => crossings_any C W (h.fr f)
  have KR := fun hj hsg W (f : Fr (fun _ => False) w W) => croutes_out C W (h.fr f) hj hsg
  have KM := fun W => timing_any C.tm W
  have HC : checkE C.cf = (if checkB C.l C.js = false then 6 else if (decide (C.sg.length ≤ 12) && sigsB C.js C.sg) = false then 7 else if (decide (C.cr.length ≤ 4) && crsB C.l C.cr) = false then 8
      else if (if ¬ C.rs.length ≤ 12 then 9 else routesE C.l C.js C.sg (C.rs.map Ro.rt)) ≠ 0 then (if ¬ C.rs.length ≤ 12 then 9 else routesE C.l C.js C.sg (C.rs.map Ro.rt)) else if timeB C.tm = false then 12 else 0) := by
    unfold checkE Cm.cf
    dsimp only
    rw [List.length_map]
    by_cases hl : C.rs.length ≤ 12
    · simp only [hl, not_true_eq_false, if_false]
    · simp only [hl, not_false_eq_true, if_true]
      rfl
  rw [HC]
  clear HC b1 k2 l2
  generalize hT : (if checkB C.l C.js = false then 6 else if (decide (C.sg.length ≤ 12) && sigsB C.js C.sg) = false then 7 else if (decide (C.cr.length ≤ 4) && crsB C.l C.cr) = false then 8
      else if (if ¬ C.rs.length ≤ 12 then 9 else routesE C.l C.js C.sg (C.rs.map Ro.rt)) ≠ 0 then (if ¬ C.rs.length ≤ 12 then 9 else routesE C.l C.js C.sg (C.rs.map Ro.rt)) else if timeB C.tm = false then 12 else (0 : Int)) = T
  generalize (if ¬ C.rs.length ≤ 12 then 9 else routesE C.l C.js C.sg (C.rs.map Ro.rt)) = RE at *
  have isp0 := (Is.new (w.alloc (.cells C.arr 30)) 75 C.arr)
  have F0 := (((Fr.refl (fun _ => False) w).alloc (.cells C.arr 30)).alloc (.cells C.arr 75))
  unfold Cm.val Cm.arr at *
  cases ht : checkB C.l C.js
  · rw [if_pos ht] at hT
    subst hT
    rw [ht] at KT
    have e6 : errOf false = 6 := rfl
    rw [e6] at KT
    clear KS KC KR KM e6 ht isp0 F0
    go_enter Tryz.func12, Tryz.ntmps12
    go_wp2_with fail
    refine (KT _ (((Fr.refl _ _).alloc _).alloc _)).mono ?_
    rintro _ w1 ⟨rfl, f1⟩
    go_wp2_with fail
    go_ret
    exact ⟨rfl, fr_nil (((Fr.refl _ _).alloc _).alloc _) f1⟩
  have hj : jointsB C.l C.js = true := by
    unfold checkB at ht
    simp only [Bool.and_eq_true] at ht
    exact ht.2.2.1
  have KR := fun hsg W f => KR hj hsg W f
  have HJ := Lib.hid hj
  rw [if_neg (by rw [ht]; decide)] at hT
  rw [ht] at KT
  have e0 : errOf true = 0 := rfl
  rw [e0] at KT
  have HT := Lib.hid hT
  clear e0 hT ht hj isp0 F0
  go_enter Tryz.func12, Tryz.ntmps12
  go_wp2_with fail
  refine (KT _ (((Fr.refl _ _).alloc _).alloc _)).mono ?_
  rintro _ w1 ⟨rfl, f1⟩
  have isp : Is w1 (w.heap.size + 1) 75 C.arr := (is_new_at (by simp) _ _).fr f1 id
  have F := fr_nil (((Fr.refl (fun _ => False) w).alloc (.cells #[.slice C.A1 C.l.length C.c1, .slice C.A2 C.js.length C.c2, .slice C.A3 C.sg.length C.c3, .slice C.A4 C.cr.length C.c4, .slice C.A5 C.rs.length C.c5, .int .i64 C.tm.age, .int .i64 C.tm.brake, .int .i64 C.tm.hold, .int .i64 C.tm.budget] 30)).alloc (.cells C.arr 75)) f1
  clear f1 KT
  obtain ⟨p0, p1, p2, p3, p4, p5, p6, p7, p8⟩ := plan_cells isp
  go_wp2_with fail
  refine (KS _ F).mono ?_
  rintro _ w2 ⟨rfl, f2⟩
  have isp := isp.fr f2 id
  have F := fr_nil F f2
  have hT := HT.out
  clear f2 KS HT p0 p1 p2 p3 p4 p5 p6 p7 p8
  cases hs : (decide (C.sg.length ≤ 12) && sigsB C.js C.sg)
  · rw [if_pos hs] at hT
    subst hT
    clear hs KR
    go_wp2_with fail
    go_ret
    exact ⟨rfl, F⟩
  rw [if_neg (by rw [hs]; decide)] at hT
  have hsg := sigs_in HJ.out C.sg (by simp only [Bool.and_eq_true] at hs; exact hs.2)
  have KR := fun W f => KR hsg W f
  have HT := Lib.hid hT
  clear hT hs hsg HJ
  obtain ⟨p0, p1, p2, p3, p4, p5, p6, p7, p8⟩ := plan_cells isp
  go_wp2_with fail
  refine (KC _ F).mono ?_
  rintro _ w3 ⟨rfl, f3⟩
  have isp := isp.fr f3 id
  have F := fr_nil F f3
  have hT := HT.out
  clear f3 KC HT p0 p1 p2 p3 p4 p5 p6 p7 p8
  cases hc : (decide (C.cr.length ≤ 4) && crsB C.l C.cr)
  · rw [if_pos hc] at hT
    subst hT
    clear hc
    go_wp2_with fail
    go_ret
    exact ⟨rfl, F⟩
  rw [if_neg (by rw [hc]; decide)] at hT
  have HT := Lib.hid hT
  clear hT hc
  obtain ⟨p0, p1, p2, p3, p4, p5, p6, p7, p8⟩ := plan_cells isp
  go_wp2_with fail
  refine (KR _ F).mono ?_
  rintro _ w4 ⟨rfl, f4⟩
  have isp := isp.fr f4 id
  have F := fr_nil F f4
  have hT := HT.out
  clear f4 KR HT p0 p1 p2 p3 p4 p5 p6 p7 p8
  by_cases hr : RE = 0
  rotate_left
  · rw [if_pos hr] at hT
    subst hT
    have z := (by simpa using hr : ¬ RE = 0)
    clear hr
    go_wp2_with fail
    go_ret
    exact ⟨rfl, F⟩
  rw [if_neg (by simpa using hr)] at hT
  subst hr
  have HT := Lib.hid hT
  clear hT
  obtain ⟨p0, p1, p2, p3, p4, p5, p6, p7, p8⟩ := plan_cells isp
  go_wp2_with fail
  refine (KM _).mono ?_
  rintro _ w5 ⟨rfl, f5⟩
  have F := fr_nil F f5
  have hT := HT.out
  clear f5 KM HT p0 p1 p2 p3 p4 p5 p6 p7 p8
  cases hm : timeB C.tm
  · rw [if_pos hm] at hT
    subst hT
    clear hm
    go_wp2_with fail
    go_ret
    exact ⟨rfl, F⟩
  · rw [if_neg (by rw [hm]; decide)] at hT
    subst hT
    clear hm
    go_wp2_with fail
    go_ret
    exact ⟨rfl, F⟩
end Go.Proofs.YtkkohdmneognlaaGreatDoor
/- Rows of one-cell elements that a call owns, whose block may bear a mark beyond its cells (what '[]byte(text)' lays): appending a slice's cells, a text's bytes; reading them as a text. -/
namespace Go.Proofs.YtkkohdmneognlaaGreatDoor
open Go.RowKit

/-- owned, no cell of it frozen -/
def ownsA (w : World) (base : Nat) (e : TypeId) (v : Value) (n : Nat) (xs : List Value) : Prop :=
  xs.length = n ∧ ((v = .slice none 0 0 ∧ n = 0) ∨
    ∃ g cap cur fz, v = .slice (some ⟨g, 0, none⟩) n cap ∧ base ≤ g ∧ w.heap[g]? = some (.cells cur e fz) ∧ (fz.2 = 0 ∨ cur.size ≤ fz.1) ∧ n ≤ cap ∧ cap ≤ maxLen ∧ cur.size = cap ∧ cur.toList.take n = xs)
section
variable {w w1 : World} {base n : Nat} {e : TypeId} {v : Value} {xs : List Value}
theorem ownsA_nil (w : World) (base : Nat) (e : TypeId) : ownsA w base e (.slice none 0 0) 0 [] := ⟨rfl, .inl ⟨rfl, rfl⟩⟩
theorem ownsA_of (h : w.ownsRow base e 1 v n xs) : ownsA w base e v n xs := by
  refine ⟨by simpa using h.1, ?_⟩
  rcases h.2 with k | ⟨g, cap, cur, hv, hb, hg, hn, hc, hs, ht⟩
  · exact .inl k
  · exact .inr ⟨g, cap, cur, (0, 0), hv, hb, hg, .inl rfl, hn, hc, by simpa using hs, by simpa using ht⟩
theorem ownsA_lt (h : ownsA w base e v n xs) : ∀ k, v.ownBlock = some k → base ≤ k ∧ k < w.heap.size := by
  intro k hk
  rcases h.2 with ⟨hv, _⟩ | ⟨g, cap, cur, fz, hv, hb, hg, _⟩
  · rw [hv] at hk; cases hk
  · rw [hv] at hk
    obtain rfl : g = k := by simpa [Value.ownBlock] using hk
    exact ⟨hb, lt_of_block hg⟩
theorem ownsA_fr {S : Nat → Prop} (h : ownsA w base e v n xs) (f : Fr S w w1) (hn : ∀ k, v.ownBlock = some k → ¬ S k) : ownsA w1 base e v n xs := by
  refine ⟨h.1, ?_⟩
  rcases h.2 with k | ⟨g, cap, cur, fz, hv, hb, hg, r⟩
  · exact .inl k
  · refine .inr ⟨g, cap, cur, fz, hv, hb, ?_, r⟩
    rw [f.block g (lt_of_block hg) (hn g (by rw [hv]; rfl))]
    exact hg
theorem ownsA_form (h : ownsA w base e v n xs) : ∃ A c, v = .slice A n c ∧ n ≤ c ∧ c ≤ maxLen := by
  rcases h.2 with ⟨hv, h0⟩ | ⟨g, cap, cur, fz, hv, _, _, _, hn, hc, _⟩
  · exact ⟨none, 0, by rw [hv, h0], by omega, by simp [maxLen]⟩
  · exact ⟨_, _, hv, hn, hc⟩
theorem ownsA_cell (h : ownsA w base e v n xs) {g : Nat} (hg : v.ownBlock = some g) : ∀ j u, xs[j]? = some u → w.cell? ((⟨g, 0, none⟩ : Addr).add j) = some u := by
  intro j u hu
  rcases h.2 with ⟨hv, _⟩ | ⟨g', cap, cur, fz, hv, _, hb, _, _, _, _, ht⟩
  · rw [hv] at hg; cases hg
  · rw [hv] at hg
    obtain rfl : g' = g := by simpa [Value.ownBlock] using hg
    rw [Addr.add_lit, Nat.zero_add, cell_of_row w g' j cur e fz hb]
    rw [← ht, List.getElem?_take] at hu
    split at hu
    · simpa using hu
    · cases hu
/-- '[]byte(text)' -/
theorem ownsA_bytes (w : World) (t : ByteArray) (base cap : Nat) (e : TypeId) (hb : base ≤ w.heap.size) (h1 : t.size ≤ cap) (h2 : cap ≤ maxLen) :
    ownsA (w.alloc (.cells (bytesRow t cap) e ((bytesRow t cap).size, (bytesRow t cap).size + 1))) base e (.slice (some ⟨w.heap.size, 0, none⟩) t.size cap) t.size ((bytesOf t).map B) := by
  have hs : (bytesRow t cap).size = cap := by
    have : t.data.size = t.size := rfl
    simp [bytesRow]
    omega
  refine ⟨by rw [List.length_map, bytesOf_length], .inr ⟨w.heap.size, cap, _, _, rfl, hb, heap_alloc_new w _, .inr (Nat.le_refl _), h1, h2, hs, ?_⟩⟩
  have : t.size = (t.data.map (fun b => Value.int .u8 b.toNat)).toList.length := by simp
  rw [this]
  simp only [bytesRow, Array.toList_append, List.take_left]
  simp [bytesOf, B]

/-- Cells are stored where none is frozen. -/
theorem run_storeA {P : Program} (g o : Nat) (t : TypeId) (fz : Nat × Nat) : ∀ (vs : List Value) (i : Nat) (cur : Array Value) (w : World), w.heap[g]? = some (.cells cur t fz) → (fz.2 = 0 ∨ cur.size ≤ fz.1) → o + i + vs.length ≤ cur.size → (∀ v ∈ vs, v.oneCell' = true) →
    (storeCells ⟨g, o, none⟩ vs i).run P w = .ok () (w.setRow g (cur.toList.take (o + i) ++ vs ++ cur.toList.drop (o + i + vs.length)).toArray)
  | [], i, cur, w, hg, _, _, _ => by
    rw [storeCells, List.append_nil, List.length_nil, Nat.add_zero, List.take_append_drop, Array.toArray_toList, setRow_self w g cur t fz hg]
    rfl
  | v :: rest, i, cur, w, hg, hfz, hl, h1 => by
    rw [List.length_cons] at hl
    have hi : o + i < cur.size := by omega
    have hcell : w.cell? ⟨g, o + i, none⟩ = some cur[o + i] := by rw [cell_of_row w g (o + i) cur t fz hg, Array.getElem?_eq_getElem hi]
    have hfro : w.frozen? ⟨g, o + i, none⟩ = false := by
      simp only [World.frozen?, hg, Bool.and_eq_false_iff, decide_eq_false_iff_not]
      rcases hfz with h | h
      · right; omega
      · left; omega
    have hst : (store ((⟨g, o, none⟩ : Addr).add i) v).run P w = .ok () (w.setRow g (cur.setIfInBounds (o + i) v)) := by
      rw [Addr.add_lit, run_store P w _ v _ (h1 v List.mem_cons_self), hcell]
      simp [hfro, setCell_eq_setRow w g (o + i) cur t fz v hg]
    have ih := run_storeA (P := P) g o t fz rest (i + 1) (cur.setIfInBounds (o + i) v) (w.setRow g (cur.setIfInBounds (o + i) v)) (setRow_heap w g cur _ t _ hg) (by rw [Array.size_setIfInBounds]; exact hfz) (by rw [Array.size_setIfInBounds]; omega) (fun x hx => h1 x (List.mem_cons_of_mem _ hx))
    simp only [storeCells, Sem.run_bind, hst, Result.andThen_ok, ih, setRow_setRow]
    congr 3
    have k := list_seg_step cur.toList (o + i) v rest (by rw [Array.length_toList]; omega)
    simpa [Array.toList_setIfInBounds, Nat.add_assoc] using k

theorem ownsA_grown {news : List Value} (w : World) (hb : base ≤ w.heap.size) (hx : xs.length = n) (old : Nat) (z : Array Value) (hz : z.size = 1) (hm : n + news.length ≤ maxLen) (row : Option Nat) :
    ownsA (w.drew.alloc (.cells (xs.toArray ++ news.toArray ++ Builtin.zeroCells z (grownCap w (n + news.length) old e - (n + news.length))) e)) base e (.slice (some ⟨w.heap.size, 0, none⟩) (n + news.length) (grownCap w (n + news.length) old e)) (n + news.length) (xs ++ news) ∧
    w.grownBy (w.drew.alloc (.cells (xs.toArray ++ news.toArray ++ Builtin.zeroCells z (grownCap w (n + news.length) old e - (n + news.length))) e)) row := by
  have hge := grownCap_ge w (n + news.length) old e
  refine ⟨⟨by rw [List.length_append, hx], .inr ⟨w.heap.size, _, _, (0, 0), rfl, hb, heap_alloc_new w.drew _, .inl rfl, hge, grownCap_le_maxLen w _ old e hm, ?_, ?_⟩⟩, ⟨rfl, rfl, rfl, by simp, fun k hk _ => heap_alloc_old w.drew _ hk⟩⟩
  · simp only [Array.size_append, List.size_toArray, size_zeroCells, hz, hx]
    omega
  · simp only [Array.toList_append]
    rw [← hx, ← List.length_append]
    exact List.take_left

/-- Appending a slice's cells. -/
theorem run_appendA {P : Program} (w : World) (t ty : TypeId) (i : TypeInfo) (z : Value) (bytes : Nat) (ht : P.underlying t = some (.slice e)) (hi : P.info? e = some i) (hz : i.zero = some z) (hs : i.size = 1) (hby : i.bytes = bytes) (hz1 : z.cells.size = 1)
    (hown : ownsA w base e v n xs) (a : Addr) (m c : Nat) (news : List Value) (hl : news.length = m) (hnews : ∀ j u, news[j]? = some u → w.cell? (a.add j) = some u) (h1 : ∀ u ∈ news, u.oneCell' = true)
    (hm : n + m ≤ maxLen) (hbytes : (n + m) * bytes ≤ 140737488355328) (hbase : base ≤ w.heap.size) :
    ∃ v' w', (Builtin.append_ #[t, t] ty #[v, .slice (some a) m c]).run P w = .ok v' w' ∧ ownsA w' base e v' (n + m) (xs ++ news) ∧ w.grownBy w' v.ownBlock := by
  subst hl
  rcases hown.2 with ⟨rfl, rfl⟩ | ⟨g, cap, cur, fz, rfl, hbg, hg, hfz, hnc, hcm, hcs, htake⟩
  · obtain ⟨v', w', r1, r2, r3, _⟩ := run_append_own (P := P) w base t ty e i z 1 bytes ht hi hz hs hby hz1 (by decide) (.slice none 0 0) 0 xs ⟨by rw [hown.1], .inl ⟨rfl, rfl⟩⟩ a news.length c news (by omega) hnews h1 hm hbytes hbase
    exact ⟨v', w', r1, ownsA_of r2, r3⟩
  · by_cases hroom : n + news.length ≤ cap
    · have hf := run_firstCells_some (P := P) w 1 news.length a news.length c news (by omega) hnews
      have hst := run_storeA (P := P) g n e fz news 0 cur w hg hfz (by omega) h1
      simp only [Nat.add_zero] at hst
      refine ⟨.slice (some ⟨g, 0, none⟩) (n + news.length) cap, w.setRow g (cur.toList.take n ++ news ++ cur.toList.drop (n + news.length)).toArray, ?_, ⟨by rw [List.length_append, hown.1], .inr ⟨g, cap, _, fz, rfl, hbg, setRow_heap w g cur _ e _ hg, ?_, hroom, hcm, ?_, ?_⟩⟩, ⟨rfl, rfl, rfl, by simp, fun k _ hk => setRow_other w g k _ (fun h => hk (by simp [Value.ownBlock, h]))⟩⟩
      · simp [Builtin.append_, run_underlying ht, sizeOf, typeInfo, hi, hs, Builtin.lenOf, hroom, hf, Addr.add_lit, hst]
      · rcases hfz with h | h
        · exact .inl h
        · right
          simp only [List.size_toArray, List.length_append, List.length_take, List.length_drop, Array.length_toList]
          omega
      · simp only [List.size_toArray, List.length_append, List.length_take, List.length_drop, Array.length_toList]
        omega
      · rw [htake]
        have : n + news.length = (xs ++ news).length := by rw [List.length_append, hown.1]
        rw [this]
        exact List.take_left
    · have hr := run_append_grow (P := P) w t ty e i z ht hi hz ⟨g, 0, none⟩ n cap xs (by rw [hs, Nat.mul_one]; exact hown.1) (ownsA_cell hown rfl) a news.length c news (by rw [hs, Nat.mul_one]) hnews (by omega) (by simp only [maxLen] at hm; omega) (growslice_fits (by omega) (by rw [hby]; exact hbytes))
      have k := ownsA_grown (e := e) (news := news) w hbase hown.1 cap z.cells hz1 hm (some g)
      exact ⟨_, _, hr, k.1, k.2⟩

/-- Appending a text's bytes. -/
theorem run_appendA_string {P : Program} (w : World) (t u ty : TypeId) (i : TypeInfo) (ht : P.underlying t = some (.slice e)) (hu : P.underlying u = some .string) (hi : P.info? e = some i) (hz : i.zero = some (.int .u8 0)) (hs : i.size = 1) (hby : i.bytes = 1)
    (hown : ownsA w base e v n xs) (s : ByteArray) (hm : n + s.size ≤ maxLen) (hbytes : n + s.size ≤ 140737488355328) (hbase : base ≤ w.heap.size) :
    ∃ v' w', (Builtin.append_ #[t, u] ty #[v, .string s]).run P w = .ok v' w' ∧ ownsA w' base e v' (n + s.size) (xs ++ (bytesOf s).map B) ∧ w.grownBy w' v.ownBlock := by
  have hsl : (Lib.strCells s).length = s.size := Lib.strCells_length s
  have hsb : Lib.strCells s = (bytesOf s).map B := rfl
  rcases hown.2 with ⟨rfl, rfl⟩ | ⟨g, cap, cur, fz, rfl, hbg, hg, hfz, hnc, hcm, hcs, htake⟩
  · obtain ⟨v', w', r1, r2, r3, _⟩ := Lib.run_append_own_string (P := P) w base t u ty e i ht hu hi hz hs hby (.slice none 0 0) 0 xs ⟨by rw [hown.1], .inl ⟨rfl, rfl⟩⟩ s hm hbytes hbase
    exact ⟨v', w', r1, ownsA_of r2, r3⟩
  · by_cases hroom : n + s.size ≤ cap
    · have hf := Lib.run_firstCells_string (P := P) w 1 s
      have hst := run_storeA (P := P) g n e fz (Lib.strCells s) 0 cur w hg hfz (by omega) (Lib.strCells_oneCell s)
      simp only [Nat.add_zero, hsl] at hst
      refine ⟨.slice (some ⟨g, 0, none⟩) (n + s.size) cap, w.setRow g (cur.toList.take n ++ Lib.strCells s ++ cur.toList.drop (n + s.size)).toArray, ?_, ⟨by rw [List.length_append, hown.1, ← hsb, hsl], .inr ⟨g, cap, _, fz, rfl, hbg, setRow_heap w g cur _ e _ hg, ?_, hroom, hcm, ?_, ?_⟩⟩, ⟨rfl, rfl, rfl, by simp, fun k _ hk => setRow_other w g k _ (fun h => hk (by simp [Value.ownBlock, h]))⟩⟩
      · simp [Builtin.append_, run_underlying ht, run_underlying hu, sizeOf, typeInfo, hi, hs, Builtin.lenOf, hroom, hf, Addr.add_lit, hst]
      · rcases hfz with h | h
        · exact .inl h
        · right
          simp only [List.size_toArray, List.length_append, List.length_take, List.length_drop, Array.length_toList, hsl]
          omega
      · simp only [List.size_toArray, List.length_append, List.length_take, List.length_drop, Array.length_toList, hsl]
        omega
      · rw [htake, ← hsb]
        have : n + s.size = (xs ++ Lib.strCells s).length := by rw [List.length_append, hown.1, hsl]
        rw [this]
        exact List.take_left
    · have hr := Lib.run_append_grow_string (P := P) w t u ty e i (.int .u8 0) ht hu hi hz ⟨g, 0, none⟩ n cap xs (by rw [hs, Nat.mul_one]; exact hown.1) (ownsA_cell hown rfl) s (by omega) (by simp only [maxLen] at hm; omega) (growslice_fits (by omega) (by rw [hby]; omega))
      have k := ownsA_grown (e := e) (news := Lib.strCells s) w hbase hown.1 cap (Value.int .u8 0).cells rfl (by rw [hsl]; exact hm) (some g)
      rw [hsl] at k
      exact ⟨_, _, hr, k.1, k.2⟩

theorem wpList_appendA {P : Program} (w : World) {ops : Array Oper} {rest : List Oper} {o : Oper} {a : Act} {Q : Exit → Act → World → Prop} (hgd : o.guard = none) (sl x : Operand) (t : TypeId)
    (ho : o.op = .call { callee := .builtin .append, args := #[sl, x], argTypes := #[t, t] }) (i : TypeInfo) (z : Value) (bytes : Nat) (ht : P.underlying t = some (.slice e)) (hi : P.info? e = some i) (hz : i.zero = some z) (hs : i.size = 1) (hby : i.bytes = bytes) (hz1 : z.cells.size = 1)
    (hv : a.eval sl = v) (hown : ownsA w base e v n xs) (ad : Addr) (m c : Nat) (news : List Value) (hx : a.eval x = .slice (some ad) m c) (hl : news.length = m) (hnews : ∀ j u, news[j]? = some u → w.cell? (ad.add j) = some u) (h1 : ∀ u ∈ news, u.oneCell' = true)
    (hm : n + m ≤ maxLen) (hbytes : (n + m) * bytes ≤ 140737488355328) (hbase : base ≤ w.heap.size)
    (h : ∀ v' w', ownsA w' base e v' (n + m) (xs ++ news) → w.grownBy w' v.ownBlock → wpList P ops Q rest (a.put o.dst v') w') : wpList P ops Q (o :: rest) a w := by
  refine wpList_plain hgd fun K hK => ?_
  obtain ⟨v', w', hr, h2, h3⟩ := run_appendA (P := P) w t o.type i z bytes ht hi hz hs hby hz1 hown ad m c news hl hnews h1 hm hbytes hbase
  unfold Oper.wp execOp
  simp only [ho, resolve, invoke, builtin, Sem.run_bind, Sem.run_pure, Result.andThen_ok, List.map_toArray, List.map_cons, List.map_nil, hv, hx, hr]
  exact hK _ _ (h v' w' h2 h3)
theorem wpList_appendA_string {P : Program} (w : World) {ops : Array Oper} {rest : List Oper} {o : Oper} {a : Act} {Q : Exit → Act → World → Prop} (hgd : o.guard = none) (sl x : Operand) (t u : TypeId)
    (ho : o.op = .call { callee := .builtin .append, args := #[sl, x], argTypes := #[t, u] }) (i : TypeInfo) (ht : P.underlying t = some (.slice e)) (hu : P.underlying u = some .string) (hi : P.info? e = some i) (hz : i.zero = some (.int .u8 0)) (hs : i.size = 1) (hby : i.bytes = 1)
    (hv : a.eval sl = v) (hown : ownsA w base e v n xs) (s : ByteArray) (hx : a.eval x = .string s) (hm : n + s.size ≤ maxLen) (hbytes : n + s.size ≤ 140737488355328) (hbase : base ≤ w.heap.size)
    (h : ∀ v' w', ownsA w' base e v' (n + s.size) (xs ++ (bytesOf s).map B) → w.grownBy w' v.ownBlock → wpList P ops Q rest (a.put o.dst v') w') : wpList P ops Q (o :: rest) a w := by
  refine wpList_plain hgd fun K hK => ?_
  obtain ⟨v', w', hr, h2, h3⟩ := run_appendA_string (P := P) w t u o.type i ht hu hi hz hs hby hown s hm hbytes hbase
  unfold Oper.wp execOp
  simp only [ho, resolve, invoke, builtin, Sem.run_bind, Sem.run_pure, Result.andThen_ok, List.map_toArray, List.map_cons, List.map_nil, hv, hx, hr]
  exact hK _ _ (h v' w' h2 h3)
/-- the text of such a row -/
theorem ownsA_text {P : Program} {bs : List UInt8} {src dst : TypeId} (h : ownsA w base e v n (bs.map B)) (hs : P.underlying src = some (.slice e)) (he : P.underlying e = some (.int .u8)) (hd : P.underlying dst = some .string) :
    (convert src dst v).run P w = .ok (.string ⟨bs.toArray⟩) w := by
  have hn : bs.length = n := by rw [← h.1, List.length_map]
  rcases h.2 with ⟨hv, h0⟩ | ⟨g, cap, cur, fz, hv, _⟩
  · have : bs = [] := List.eq_nil_of_length_eq_zero (by omega)
    subst this
    rw [hv]
    exact Row.text (Row.nil e w) hs he hd
  · have hc := ownsA_cell h (g := g) (by rw [hv]; rfl)
    rw [hv, ← hn]
    refine run_convert_bytes_back w src dst e ⟨g, 0, none⟩ cap bs hs he hd fun j hj => ?_
    exact hc j _ (by rw [List.getElem?_map, List.getElem?_eq_getElem hj]; rfl)
theorem ownsA_step {w0 W W' : World} (f : Fr (fun _ => False) w0 W) (h : ownsA W w0.heap.size e v n xs) (hg : W.grownBy W' v.ownBlock) : Fr (fun _ => False) w0 W' :=
  f.grown hg fun k hk => .inr (ownsA_lt h k hk).1
end
end Go.Proofs.YtkkohdmneognlaaGreatDoor

/- Contracts and plain mathematics of earlier stages: Right2. -/
import Derived.Test.YtnnacdkijeoeoaaKh
namespace Go.Proofs.Ytnnacdkijeoeoaa
open Go.RowKit

theorem routeB_of (l : List Sec) (js : List Jo) (sg : List Sg) (r : Rt) (he : isSecB sg.length r.entry = true) : routeB l js sg r =
    ((decide (r.exit = -1) || isSecB sg.length r.exit) && (decide (1 ≤ r.path.length) && (decide (r.path.length ≤ 8) && (hangsB l js (beyOk sg js r.entry) (beyS sg js r.entry) (beyE sg js r.entry) r.path &&
    (onceB ((List.replicate l.length false).set (apM sg r.entry).toNat true) r.path && ((clearB sg (r.path.take (r.path.length - 1)) && endB js sg r.exit (lastSt r.path)) && !(r.shunt && linedB l r.path))))))) := by
  unfold routeB beyOk beyS beyE apM
  rw [if_pos he, if_pos he, if_pos he, he, Bool.true_and, Bool.true_and]

set_option maxHeartbeats 8000000 in
theorem right_any (C : Cm) (r : Ro) (w : World) (h : C.Ok w) (hr : r.Ok w) (hj : jointsB C.l C.js = true) (hsg : ∀ s ∈ C.sg, isSecB C.l.length s.sec = true) :
    Calls Try.prog 58 #[C.val, r.val] w fun e w' => e = .returned (.bool (routeB C.l C.js C.sg r.rt)) ∧ Fr (fun _ => False) w w' := by
  have KE := fun W => hasg_any (A := C.A3) (c := C.c3) (n := C.sg.length) r.entry W
  have KX := fun W => hasg_any (A := C.A3) (c := C.c3) (n := C.sg.length) r.exit W
  have KH := fun W (f : Fr (fun _ => False) w W) => hangs_any C r W (h.fr f) (hr.fr f) hj
  have KO := fun W (f : Fr (fun _ => False) w W) ha hp => once_any C r W (h.fr f) (hr.fr f) ha hp
  have KN0 := fun W (f : Fr (fun _ => False) w W) hn hx => endr_any C r W (h.fr f) (hr.fr f) hn hx
  have KL := fun W (f : Fr (fun _ => False) w W) hp hl => lined_any C (c := r.c1) r.path W (h.fr f) hp (hr.path.fr f fun _ _ => id) hl
  have b1 := hr.b1
  have hRT : routeB C.l C.js C.sg r.rt = routeB C.l C.js C.sg ⟨r.entry, r.exit, r.path, r.flank, r.over, r.shunt⟩ := rfl
  cases he : isSecB C.sg.length r.entry
  · rw [hRT, show routeB C.l C.js C.sg ⟨r.entry, r.exit, r.path, r.flank, r.over, r.shunt⟩ = false by unfold routeB; rw [he, Bool.false_and]]
    rw [he] at KE
    clear he KX KH KO KN0 KL hRT
    unfold Cm.val Cm.arr Ro.val at *
    go_enter Try.func58, Try.ntmps58
    go_wp2_with fail
    refine (KE _).mono ?_
    rintro _ _ ⟨rfl, rfl⟩
    go_wp2_with fail
    go_ret
    exact ⟨rfl, ((Fr.refl _ _).alloc _).alloc _⟩
  have hap : isSecB C.l.length (apM C.sg r.entry) = true := by
    unfold apM
    rw [if_pos he]
    obtain ⟨k, hk, hkl⟩ := isSecB_true he
    rw [hk, sgAt_nat hkl]
    exact hsg _ (List.getElem_mem hkl)
  have KO1 := fun W f hp => KO W f hap hp
  clear KO
  have hps : hangsB C.l C.js (beyOk C.sg C.js r.entry) (beyS C.sg C.js r.entry) (beyE C.sg C.js r.entry) r.path = true → ∀ x ∈ r.path, isSecB C.l.length x.sec = true := by
    refine hangs_in hj _ _ _ _ ?_
    unfold beyOk beyS
    intro hb
    simp only [Bool.and_eq_true] at hb
    rw [if_pos hb.1]
    exact next_in hj hb.2
  rw [hRT, routeB_of _ _ _ _ he]
  dsimp only
  rw [he] at KE
  have HE := Lib.hid he
  clear he hap hRT hj hsg
  cases hxx : (decide (r.exit = -1) || isSecB C.sg.length r.exit)
  · rw [Bool.false_and]
    simp only [Bool.or_eq_false_iff, decide_eq_false_iff_not] at hxx
    obtain ⟨x1, x2⟩ := hxx
    rw [x2] at KX
    clear KH KO1 KN0 KL hps h hr
    unfold Cm.val Cm.arr Ro.val at *
    go_enter Try.func58, Try.ntmps58
    go_wp2_with fail
    refine (KE _).mono ?_
    rintro _ _ ⟨rfl, rfl⟩
    go_wp2_with fail
    refine (KX _).mono ?_
    rintro _ _ ⟨rfl, rfl⟩
    go_wp2_with fail
    go_ret
    exact ⟨rfl, ((Fr.refl _ _).alloc _).alloc _⟩
  rw [Bool.true_and]
  have hex : r.exit = -1 ∨ isSecB C.sg.length r.exit = true := by
    rcases Bool.or_eq_true_iff.1 hxx with e | e
    · exact .inl (by simpa using e)
    · exact .inr e
  have KN1 := fun W f hn => KN0 W f hn hex
  clear KN0
  have hl8 : r.path.length ≤ 9223372036854775807 := by omega
  have KL1 := fun W f hp => KL W f hp hl8
  clear KL
  clear hxx
  have KE : ∀ W, Calls Try.prog 72 #[.slice C.A3 C.sg.length C.c3, .int .i64 r.entry] W fun e w' => e = .returned (.bool true) ∧ Fr (fun _ => False) W w' := fun W => (KE W).mono fun e w' he => ⟨he.1, by rw [← he.2]; exact Fr.refl _ _⟩
  have KX : isSecB C.sg.length r.exit = true → ∀ W, Calls Try.prog 72 #[.slice C.A3 C.sg.length C.c3, .int .i64 r.exit] W fun e w' => e = .returned (.bool true) ∧ Fr (fun _ => False) W w' := fun hx W => (KX W).mono fun e w' he => ⟨by rw [he.1, hx], by rw [← he.2]; exact Fr.refl _ _⟩
  generalize hT : (decide (1 ≤ r.path.length) && (decide (r.path.length ≤ 8) && (hangsB C.l C.js (beyOk C.sg C.js r.entry) (beyS C.sg C.js r.entry) (beyE C.sg C.js r.entry) r.path && (onceB ((List.replicate C.l.length false).set (apM C.sg r.entry).toNat true) r.path && ((clearB C.sg (r.path.take (r.path.length - 1)) && endB C.js C.sg r.exit (lastSt r.path)) && !(r.shunt && linedB C.l r.path)))))) = T
  have HT := Lib.hid hT
  clear hT
  have HPS := Lib.hid hps
  clear hps hl8
  unfold Cm.val Cm.arr Ro.val at *
  go_enter Try.func58, Try.ntmps58
  go_wp2_with fail
  refine (KE _).mono ?_
  rintro _ w1 ⟨rfl, f1⟩
  have isp : Is w1 w.heap.size 97 C.arr := ((Is.new w _ _).alloc _).fr f1 id
  have isr : Is w1 (w.heap.size + 1) 83 #[.int .i64 r.entry, .int .i64 r.exit, .slice r.a1 r.path.length r.c1, .slice r.a2 r.flank.length r.c2, .slice r.a3 r.over.length r.c3, .bool r.shunt] := (is_new_at (by simp) _ _).fr f1 id
  have F := fr_nil (((Fr.refl (fun _ => False) w).alloc (.cells C.arr 97)).alloc (.cells #[.int .i64 r.entry, .int .i64 r.exit, .slice r.a1 r.path.length r.c1, .slice r.a2 r.flank.length r.c2, .slice r.a3 r.over.length r.c3, .bool r.shunt] 83)) f1
  clear KE f1
  have hex1 : r.exit = -1 ∨ (r.exit ≠ -1 ∧ isSecB C.sg.length r.exit = true) := by
    by_cases e : r.exit = -1
    · exact .inl e
    · exact .inr ⟨e, hex.resolve_left e⟩
  clear hex
  generalize r.exit = ex at *
  have hT := HT.out
  by_cases hn1 : 1 ≤ r.path.length
  rotate_left
  · have hn0 : r.path.length = 0 := by omega
    rw [show decide (1 ≤ r.path.length) = false by simp [hn0], Bool.false_and] at hT
    subst hT
    clear HT hn1 KN1
    rcases hex1 with hex | ⟨hex, hexs⟩
    · clear KX
      subst hex
      obtain ⟨p0, p1, p2, p3, p4, p5, p6, p7, p8⟩ := plan_cells isp
      obtain ⟨r0, r1, r2, r3, r4, r5⟩ := vals_cells isr
      rw [hn0] at r2

      go_wp2_with fail
      go_ret
      exact ⟨rfl, F⟩
    · obtain ⟨p0, p1, p2, p3, p4, p5, p6, p7, p8⟩ := plan_cells isp
      obtain ⟨r0, r1, r2, r3, r4, r5⟩ := vals_cells isr
      have KX := KX hexs
      clear hexs
      go_wp2_with fail
      refine (KX _).mono ?_
      rintro _ w2 ⟨rfl, f2⟩
      have isp := isp.fr f2 id
      have isr := isr.fr f2 id
      have F := fr_nil F f2
      clear f2 KX p0 p1 p2 p3 p4 p5 p6 p7 p8 r0 r1 r2 r3 r4 r5
      obtain ⟨p0, p1, p2, p3, p4, p5, p6, p7, p8⟩ := plan_cells isp
      obtain ⟨r0, r1, r2, r3, r4, r5⟩ := vals_cells isr
      rw [hn0] at r2

      go_wp2_with fail
      go_ret
      exact ⟨rfl, F⟩
  rw [show decide (1 ≤ r.path.length) = true by simp [hn1], Bool.true_and] at hT
  have z1 : ¬ ((r.path.length : Int) < 1) := by omega
  by_cases hn8 : r.path.length ≤ 8
  rotate_left
  · have z8 : (8 : Int) < (r.path.length : Int) := by omega
    rw [show decide (r.path.length ≤ 8) = false by simp [hn8], Bool.false_and] at hT
    subst hT
    clear HT
    rcases hex1 with hex | ⟨hex, hexs⟩
    · clear KX
      subst hex
      obtain ⟨p0, p1, p2, p3, p4, p5, p6, p7, p8⟩ := plan_cells isp
      obtain ⟨r0, r1, r2, r3, r4, r5⟩ := vals_cells isr

      go_wp2_with fail
      go_ret
      exact ⟨rfl, F⟩
    · obtain ⟨p0, p1, p2, p3, p4, p5, p6, p7, p8⟩ := plan_cells isp
      obtain ⟨r0, r1, r2, r3, r4, r5⟩ := vals_cells isr
      have KX := KX hexs
      clear hexs
      go_wp2_with fail
      refine (KX _).mono ?_
      rintro _ w2 ⟨rfl, f2⟩
      have isp := isp.fr f2 id
      have isr := isr.fr f2 id
      have F := fr_nil F f2
      clear f2 KX p0 p1 p2 p3 p4 p5 p6 p7 p8 r0 r1 r2 r3 r4 r5
      obtain ⟨p0, p1, p2, p3, p4, p5, p6, p7, p8⟩ := plan_cells isp
      obtain ⟨r0, r1, r2, r3, r4, r5⟩ := vals_cells isr

      go_wp2_with fail
      go_ret
      exact ⟨rfl, F⟩
  rw [show decide (r.path.length ≤ 8) = true by simp [hn8], Bool.true_and] at hT
  clear HT
  have HT := Lib.hid hT
  clear hT
  have KN := fun W f => KN1 W f hn1
  clear KN1
  have z8 : ¬ ((8 : Int) < (r.path.length : Int)) := by omega
  rcases hex1 with hex | ⟨hex, hexs⟩
  · clear KX
    subst hex
    obtain ⟨p0, p1, p2, p3, p4, p5, p6, p7, p8⟩ := plan_cells isp
    obtain ⟨r0, r1, r2, r3, r4, r5⟩ := vals_cells isr

    go_wp2_with fail
    all_goals try (exfalso; omega)
    clear p0 p1 p2 p3 p4 p5 p6 p7 p8 r0 r1 r2 r3 r4 r5
    try clear hex
    refine (KH _ F).mono ?_
    rintro _ w4 ⟨rfl, f4⟩
    have isp := isp.fr f4 id
    have isr := isr.fr f4 id
    have F := fr_nil F f4
    have hT := HT.out
    clear f4 KH HT
    cases hb4 : hangsB C.l C.js (beyOk C.sg C.js r.entry) (beyS C.sg C.js r.entry) (beyE C.sg C.js r.entry) r.path
    · rw [hb4, Bool.false_and] at hT
      subst hT
      clear hb4
      go_wp2_with fail
      go_ret
      exact ⟨rfl, F⟩
    rw [hb4, Bool.true_and] at hT
    have HT := Lib.hid hT
    have hps := HPS.out hb4
    have KO := fun W f => KO1 W f hps
    have KL := fun W f => KL1 W f hps
    clear KO1 KL1
    have HP2 := Lib.hid hps
    clear hps HPS hb4 hT
    obtain ⟨p0, p1, p2, p3, p4, p5, p6, p7, p8⟩ := plan_cells isp
    obtain ⟨r0, r1, r2, r3, r4, r5⟩ := vals_cells isr
    go_wp2_with fail
    clear p0 p1 p2 p3 p4 p5 p6 p7 p8 r0 r1 r2 r3 r4 r5
    refine (KO _ F).mono ?_
    rintro _ w5 ⟨rfl, f5⟩
    have isp := isp.fr f5 id
    have isr := isr.fr f5 id
    have F := fr_nil F f5
    have hT := HT.out
    clear f5 KO HT
    cases hb5 : onceB ((List.replicate C.l.length false).set (apM C.sg r.entry).toNat true) r.path
    · rw [hb5, Bool.false_and] at hT
      subst hT
      clear hb5
      go_wp2_with fail
      go_ret
      exact ⟨rfl, F⟩
    rw [hb5, Bool.true_and] at hT
    have HT := Lib.hid hT
    clear hb5 hT
    obtain ⟨p0, p1, p2, p3, p4, p5, p6, p7, p8⟩ := plan_cells isp
    obtain ⟨r0, r1, r2, r3, r4, r5⟩ := vals_cells isr
    go_wp2_with fail
    clear p0 p1 p2 p3 p4 p5 p6 p7 p8 r0 r1 r2 r3 r4 r5
    refine (KN _ F).mono ?_
    rintro _ w6 ⟨rfl, f6⟩
    have isp := isp.fr f6 id
    have isr := isr.fr f6 id
    have F := fr_nil F f6
    have hT := HT.out
    clear f6 KN HT
    cases hb6 : (clearB C.sg (r.path.take (r.path.length - 1)) && endB C.js C.sg (-1) (lastSt r.path))
    · rw [hb6, Bool.false_and] at hT
      subst hT
      clear hb6
      go_wp2_with fail
      go_ret
      exact ⟨rfl, F⟩
    rw [hb6, Bool.true_and] at hT
    have HT := Lib.hid hT
    clear hb6 HT
    obtain ⟨p0, p1, p2, p3, p4, p5, p6, p7, p8⟩ := plan_cells isp
    obtain ⟨r0, r1, r2, r3, r4, r5⟩ := vals_cells isr
    cases hsh : r.shunt
    · rw [hsh, Bool.false_and, Bool.not_false] at hT
      subst hT
      rw [hsh] at r5
      go_wp2_with fail
      go_ret
      exact ⟨rfl, F⟩
    · rw [hsh, Bool.true_and] at hT
      rw [hsh] at r5
      clear hsh
      go_wp2_with fail
      refine (KL _ F).mono ?_
      rintro _ w7 ⟨rfl, f7⟩
      have F := fr_nil F f7
      clear p0 p1 p2 p3 p4 p5 p6 p7 p8 r0 r1 r2 r3 r4 r5 f7
      cases hb7 : linedB C.l r.path
      all_goals
        rw [hb7] at hT
        subst hT
        clear hb7
        go_wp2_with fail
        go_ret
        exact ⟨rfl, F⟩
  · obtain ⟨p0, p1, p2, p3, p4, p5, p6, p7, p8⟩ := plan_cells isp
    obtain ⟨r0, r1, r2, r3, r4, r5⟩ := vals_cells isr
    have KX := KX hexs
    clear hexs
    go_wp2_with fail
    refine (KX _).mono ?_
    rintro _ w2 ⟨rfl, f2⟩
    have isp := isp.fr f2 id
    have isr := isr.fr f2 id
    have F := fr_nil F f2
    clear f2 KX p0 p1 p2 p3 p4 p5 p6 p7 p8 r0 r1 r2 r3 r4 r5
    obtain ⟨p0, p1, p2, p3, p4, p5, p6, p7, p8⟩ := plan_cells isp
    obtain ⟨r0, r1, r2, r3, r4, r5⟩ := vals_cells isr

    go_wp2_with fail
    all_goals try (exfalso; omega)
    clear p0 p1 p2 p3 p4 p5 p6 p7 p8 r0 r1 r2 r3 r4 r5
    try clear hex
    refine (KH _ F).mono ?_
    rintro _ w4 ⟨rfl, f4⟩
    have isp := isp.fr f4 id
    have isr := isr.fr f4 id
    have F := fr_nil F f4
    have hT := HT.out
    clear f4 KH HT
    cases hb4 : hangsB C.l C.js (beyOk C.sg C.js r.entry) (beyS C.sg C.js r.entry) (beyE C.sg C.js r.entry) r.path
    · rw [hb4, Bool.false_and] at hT
      subst hT
      clear hb4
      go_wp2_with fail
      go_ret
      exact ⟨rfl, F⟩
    rw [hb4, Bool.true_and] at hT
    have HT := Lib.hid hT
    have hps := HPS.out hb4
    have KO := fun W f => KO1 W f hps
    have KL := fun W f => KL1 W f hps
    clear KO1 KL1
    have HP2 := Lib.hid hps
    clear hps HPS hb4 hT
    obtain ⟨p0, p1, p2, p3, p4, p5, p6, p7, p8⟩ := plan_cells isp
    obtain ⟨r0, r1, r2, r3, r4, r5⟩ := vals_cells isr
    go_wp2_with fail
    clear p0 p1 p2 p3 p4 p5 p6 p7 p8 r0 r1 r2 r3 r4 r5
    refine (KO _ F).mono ?_
    rintro _ w5 ⟨rfl, f5⟩
    have isp := isp.fr f5 id
    have isr := isr.fr f5 id
    have F := fr_nil F f5
    have hT := HT.out
    clear f5 KO HT
    cases hb5 : onceB ((List.replicate C.l.length false).set (apM C.sg r.entry).toNat true) r.path
    · rw [hb5, Bool.false_and] at hT
      subst hT
      clear hb5
      go_wp2_with fail
      go_ret
      exact ⟨rfl, F⟩
    rw [hb5, Bool.true_and] at hT
    have HT := Lib.hid hT
    clear hb5 hT
    obtain ⟨p0, p1, p2, p3, p4, p5, p6, p7, p8⟩ := plan_cells isp
    obtain ⟨r0, r1, r2, r3, r4, r5⟩ := vals_cells isr
    go_wp2_with fail
    clear p0 p1 p2 p3 p4 p5 p6 p7 p8 r0 r1 r2 r3 r4 r5
    refine (KN _ F).mono ?_
    rintro _ w6 ⟨rfl, f6⟩
    have isp := isp.fr f6 id
    have isr := isr.fr f6 id
    have F := fr_nil F f6
    have hT := HT.out
    clear f6 KN HT
    cases hb6 : (clearB C.sg (r.path.take (r.path.length - 1)) && endB C.js C.sg ex (lastSt r.path))
    · rw [hb6, Bool.false_and] at hT
      subst hT
      clear hb6
      go_wp2_with fail
      go_ret
      exact ⟨rfl, F⟩
    rw [hb6, Bool.true_and] at hT
    have HT := Lib.hid hT
    clear hb6 HT
    obtain ⟨p0, p1, p2, p3, p4, p5, p6, p7, p8⟩ := plan_cells isp
    obtain ⟨r0, r1, r2, r3, r4, r5⟩ := vals_cells isr
    cases hsh : r.shunt
    · rw [hsh, Bool.false_and, Bool.not_false] at hT
      subst hT
      rw [hsh] at r5
      go_wp2_with fail
      go_ret
      exact ⟨rfl, F⟩
    · rw [hsh, Bool.true_and] at hT
      rw [hsh] at r5
      clear hsh
      go_wp2_with fail
      refine (KL _ F).mono ?_
      rintro _ w7 ⟨rfl, f7⟩
      have F := fr_nil F f7
      clear p0 p1 p2 p3 p4 p5 p6 p7 p8 r0 r1 r2 r3 r4 r5 f7
      cases hb7 : linedB C.l r.path
      all_goals
        rw [hb7] at hT
        subst hT
        clear hb7
        go_wp2_with fail
        go_ret
        exact ⟨rfl, F⟩
end Go.Proofs.Ytnnacdkijeoeoaa


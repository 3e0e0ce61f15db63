/- Contracts and plain mathematics of earlier stages: Routes, Chk. -/
import Derived.Test.YtnnacdkijeoeoaaKi
import Derived.Test.YtnnacdkijeoeoaaKf
import Derived.Deep.RegionHeld3
namespace Go.Proofs.Ytnnacdkijeoeoaa
open Go.RowKit

set_option maxRecDepth 4000 in
set_option maxHeartbeats 8000000 in
theorem croutes_any (C : Cm) (w : World) (h : C.Ok w) (hj : jointsB C.l C.js = true) (hsg : ∀ s ∈ C.sg, isSecB C.l.length s.sec = true) (hl12 : C.rs.length ≤ 12) :
    Calls Try.prog 36 #[C.val] w fun e w' => e = .returned (.int .i64 (routesE C.l C.js C.sg (C.rs.map Ro.rt))) ∧ Fr (fun _ => False) w w' := by
  have z12 : ((12 : Int) < (C.rs.length : Int)) = False := by simp; omega
  have KR := fun r W (f : Fr (fun _ => False) w W) (hr : Ro.Ok W r) => right_any C r W (h.fr f) hr hj hsg
  have KA := fun r W (f : Fr (fun _ => False) w W) => approach_any C r W (h.fr f)
  have KF := fun (r : Ro) ap W (f : Fr (fun _ => False) w W) (hr : Ro.Ok W r) => flank_any C ap (c := r.c1) r.path W (h.fr f) hr.path (by have := hr.b1; omega)
  have KO := fun r W (f : Fr (fun _ => False) w W) (hr : Ro.Ok W r) => overlap_any C r W (h.fr f) hr
  have hb5 := h.b5
  generalize hT : routesE C.l C.js C.sg (C.rs.map Ro.rt) = T
  have HT := Lib.hid hT
  clear hT hj hsg
  unfold Cm.val Cm.arr Ro.val at *
  go_enter Try.func36, Try.ntmps36
  go_wp2_with fail
  clear z12
  go_loopw [14] (fun v14 wr => ∃ k : Nat, k ≤ C.rs.length ∧ v14 = .int .i64 (k : Nat) ∧ routesE C.l C.js C.sg ((C.rs.drop k).map Ro.rt) = T ∧ Is wr w.heap.size 97 C.arr ∧ Fr (fun _ => False) w wr) (fun i _ => C.rs.length - (intOf i).toNat)
  case atStart => exact ⟨0, Nat.zero_le _, rfl, HT.out, Is.new w _ _, (Fr.refl _ _).alloc _⟩
  case round =>
    clear HT
    obtain ⟨k, hk, rfl, hT, isp, fr⟩ := hrel
    by_cases hlt : k < C.rs.length
    · obtain ⟨ga, oa, ha, q0, q1, q2, q3, q4, q5⟩ := rd_ro (h.rts.fr fr fun _ _ => id) hlt
      have hro : C.rs[k].Ok w := h.each _ (List.getElem_mem hlt)
      rw [List.drop_eq_getElem_cons hlt, List.map_cons, routesE] at hT
      generalize hrest : routesE C.l C.js C.sg ((C.rs.drop (k + 1)).map Ro.rt) = rest at *
      have HR := Lib.hid hrest
      clear hrest
      generalize C.rs[k] = r at *
      have hT : (if routeB C.l C.js C.sg r.rt = false then 9 else if r.flank ≠ flankM C.l C.js (apM C.sg r.entry) r.path then 10 else if r.over ≠ overM C.l C.js C.sg r.rt then 11 else rest) = T := hT
      have KR := fun W f hr => KR r W f hr
      have KA := fun W f => KA r W f
      have KF := fun W f hr => KF r (apM C.sg r.entry) W f hr
      have KO := fun W f hr => KO r W f hr
      have isp1 := isp.alloc (.cells #[.int .i64 r.entry, .int .i64 r.exit, .slice r.a1 r.path.length r.c1, .slice r.a2 r.flank.length r.c2, .slice r.a3 r.over.length r.c3, .bool r.shunt] 83)
      have isl : Is (wr.alloc (.cells #[.int .i64 r.entry, .int .i64 r.exit, .slice r.a1 r.path.length r.c1, .slice r.a2 r.flank.length r.c2, .slice r.a3 r.over.length r.c3, .bool r.shunt] 83)) wr.heap.size 83 #[.int .i64 r.entry, .int .i64 r.exit, .slice r.a1 r.path.length r.c1, .slice r.a2 r.flank.length r.c2, .slice r.a3 r.over.length r.c3, .bool r.shunt] := Is.new wr _ _
      have F1 := fr.alloc (.cells #[.int .i64 r.entry, .int .i64 r.exit, .slice r.a1 r.path.length r.c1, .slice r.a2 r.flank.length r.c2, .slice r.a3 r.over.length r.c3, .bool r.shunt] 83)
      obtain ⟨p0, p1, p2, p3, p4, p5, p6, p7, p8⟩ := plan_cells isp1
      obtain ⟨r0, r1, r2, r3, r4, r5⟩ := ro_cells isl
      have hro1 := hro.fr F1
      rw [ha]
      have HA := Lib.hid ha
      clear ha
      go_wp2_with fail
      refine (KR _ F1 hro1).mono ?_
      rintro _ w2 ⟨rfl, f2⟩
      have isp2 := isp1.fr f2 id
      have isl2 := isl.fr f2 id
      have F2 := fr_nil F1 f2
      have hro2 := hro1.fr f2
      clear p0 p1 p2 p3 p4 p5 p6 p7 p8 r0 r1 r2 r3 r4 r5 q0 q1 q2 q3 q4 q5 isp1 isl F1 hro1 f2 KR
      cases hb : routeB C.l C.js C.sg r.rt
      · rw [if_pos hb] at hT
        subst hT
        clear hb
        go_wp2_with fail
        go_ret
        exact ⟨rfl, F2⟩
      rw [if_neg (by rw [hb]; decide)] at hT
      have HT := Lib.hid hT
      clear hT hb
      go_upto_region 8 with (fail)
      generalize wr.heap.size = bl at *
      refine wp_region_held_drew (S := fun Wx => (Wx.cell? ⟨w.heap.size, 0, none⟩ = some (.slice C.A1 C.l.length C.c1) ∧ Wx.cell? ⟨w.heap.size, 1, none⟩ = some (.slice C.A2 C.js.length C.c2) ∧ Wx.cell? ⟨w.heap.size, 2, none⟩ = some (.slice C.A3 C.sg.length C.c3) ∧ Wx.cell? ⟨w.heap.size, 3, none⟩ = some (.slice C.A4 C.cr.length C.c4) ∧ Wx.cell? ⟨w.heap.size, 4, none⟩ = some (.slice C.A5 C.rs.length C.c5) ∧ Wx.cell? ⟨w.heap.size, 5, none⟩ = some (.int .i64 C.tm.age) ∧ Wx.cell? ⟨w.heap.size, 6, none⟩ = some (.int .i64 C.tm.brake) ∧ Wx.cell? ⟨w.heap.size, 7, none⟩ = some (.int .i64 C.tm.hold) ∧ Wx.cell? ⟨w.heap.size, 8, none⟩ = some (.int .i64 C.tm.budget)) ∧ (Wx.cell? ⟨bl, 0, none⟩ = some (.int .i64 r.entry) ∧ Wx.cell? ⟨bl, 1, none⟩ = some (.int .i64 r.exit) ∧ Wx.cell? ⟨bl, 2, none⟩ = some (.slice r.a1 r.path.length r.c1) ∧ Wx.cell? ⟨bl, 3, none⟩ = some (.slice r.a2 r.flank.length r.c2) ∧ Wx.cell? ⟨bl, 4, none⟩ = some (.slice r.a3 r.over.length r.c3) ∧ Wx.cell? ⟨bl, 5, none⟩ = some (.bool r.shunt))) (by kernel_rfl) ⟨plan_cells isp2, ro_cells isl2⟩ (fun hHeld => ?_)
      refine wpAnyH_take (i := 0) (v := ?_) rfl (by kernel_rfl) (by kernel_rfl) (by kernel_rfl) (fun _ _ _ h => h) (Or.inl ⟨by rfl, ?_⟩) (by assumption) ?_
      rotate_left
      · intro Wx hSw
        try dsimp only at hSw
        go_simp
        try with_reducible rfl
      try simp only [Act.put]
      refine wpAnyH_take (i := 1) (v := ?_) rfl (by kernel_rfl) (by kernel_rfl) (by kernel_rfl) (fun _ _ _ h => h) (Or.inl ⟨by rfl, ?_⟩) (by assumption) ?_
      rotate_left
      · intro Wx hSw
        try dsimp only at hSw
        go_simp
        try with_reducible rfl
      try simp only [Act.put]
      refine wpAnyH_take (i := 2) (v := ?_) rfl (by kernel_rfl) (by kernel_rfl) (by kernel_rfl) (fun _ _ _ h => h) (Or.inl ⟨by rfl, ?_⟩) (by assumption) ?_
      rotate_left
      · intro Wx hSw
        try dsimp only at hSw
        go_simp
        try with_reducible rfl
      try simp only [Act.put]
      refine wpAnyH_take (i := 3) (v := ?_) rfl (by kernel_rfl) (by kernel_rfl) (by kernel_rfl) (fun _ _ _ h => h) (Or.inl ⟨by rfl, ?_⟩) (by assumption) ?_
      rotate_left
      · intro Wx hSw
        try dsimp only at hSw
        go_simp
        try with_reducible rfl
      try simp only [Act.put]
      refine wpAnyH_take (i := 4) (v := ?_) rfl (by kernel_rfl) (by kernel_rfl) (by kernel_rfl) (fun _ _ _ h => h) (Or.inl ⟨by rfl, ?_⟩) (by assumption) ?_
      rotate_left
      · intro Wx hSw
        try dsimp only at hSw
        go_simp
        try with_reducible rfl
      try simp only [Act.put]
      refine wpAnyH_take (i := 5) (v := ?_) rfl (by kernel_rfl) (by kernel_rfl) (by kernel_rfl) (fun _ _ _ h => h) (Or.inl ⟨by rfl, ?_⟩) (by assumption) ?_
      rotate_left
      · intro Wx hSw
        try dsimp only at hSw
        go_simp
        try with_reducible rfl
      try simp only [Act.put]
      refine wpAnyH_take (i := 7) (v := ?_) rfl (by kernel_rfl) (by kernel_rfl) (by kernel_rfl) (fun _ _ _ h => h) (Or.inl ⟨by rfl, ?_⟩) (by assumption) ?_
      rotate_left
      · intro Wx hSw
        try dsimp only at hSw
        go_simp
        try with_reducible rfl
      try simp only [Act.put]
      refine wpAnyH_take (i := 8) (v := ?_) rfl (by kernel_rfl) (by kernel_rfl) (by kernel_rfl) (fun _ _ _ h => h) (Or.inl ⟨by rfl, ?_⟩) (by assumption) ?_
      rotate_left
      · intro Wx hSw
        try dsimp only at hSw
        go_simp
        try with_reducible rfl
      try simp only [Act.put]
      refine wpAnyH_ready (rs := [6]) (by kernel_rfl) (by simp) (AllReadyH.cons rfl (fun K hK => ?_) AllReadyH.nil)
      go_simp
      refine (KA _ F2.drew).mono ?_
      rintro e w4 ⟨rfl, f4⟩
      have isl4 := isl2.drew.fr f4 id
      have isp4 := isp2.drew.fr f4 id
      have F4 := fr_nil F2.drew f4
      have hro4 := (hro2.drewN 1).fr f4
      go_simp
      refine hK.out _ _ ⟨plan_cells isp4, ro_cells isl4⟩ (fun hHeld => ?_)
      clear hK K KA isp2 isl2 F2 hro2 f4
      refine wpAnyH_ready (rs := [9]) (by kernel_rfl) (by simp) (AllReadyH.cons rfl (fun K hK => ?_) AllReadyH.nil)
      go_simp
      refine (KF _ F4 hro4).mono ?_
      rintro e w5 ⟨A, cA, rfl, hown, f5⟩
      have isl5 := isl4.fr f5 id
      have isp5 := isp4.fr f5 id
      have F5 := fr_nil F4 f5
      have hro5 := hro4.fr f5
      go_simp
      refine hK.out _ _ ⟨plan_cells isp5, ro_cells isl5⟩ (fun hHeld => ?_)
      obtain ⟨_, _, _, hn1, hn2, _, _⟩ := wide_form hown
      have hrd := wide_rd hown
      have hlen : (flankM C.l C.js (apM C.sg r.entry) r.path).length ≤ 9223372036854775807 := Nat.le_trans (Nat.le_trans hn1 hn2) (by decide)
      have KE := fun W (f : Fr (fun _ => False) w5 W) => nequal_any (c := r.c2) (c' := cA) W (hro5.flank.fr f fun _ _ => id) (hrd.fr f fun _ _ => id) hlen
      clear hK K KF isp4 isl4 F4 hro4 f5 hown hn1 hn2 hrd hlen
      generalize flankM C.l C.js (apM C.sg r.entry) r.path = L at KE HT ⊢
      refine wpAnyH_ready (rs := [10]) (by kernel_rfl) (by simp) (AllReadyH.cons rfl (fun K hK => ?_) AllReadyH.nil)
      go_simp
      refine (KE _ (Fr.refl _ _)).mono ?_
      rintro e w6 ⟨rfl, f6⟩
      have isl6 := isl5.fr f6 id
      have isp6 := isp5.fr f6 id
      have F6 := fr_nil F5 f6
      have hro6 := hro5.fr f6
      go_simp
      refine hK.out _ _ ⟨plan_cells isp6, ro_cells isl6⟩ (fun hHeld => ?_)
      clear hK K KE isp5 isl5 F5 hro5 f6
      refine wpAnyH_take (i := 11) (v := ?_) rfl (by kernel_rfl) (by kernel_rfl) (by kernel_rfl) (fun _ _ _ h => h) (Or.inl ⟨by rfl, ?_⟩) (by assumption) ?_
      rotate_left
      · intro Wx hSw
        try dsimp only at hSw
        go_simp
        try with_reducible rfl
      try simp only [Act.put]
      refine wpAnyH_ready (rs := [12]) (by kernel_rfl) (by simp) (AllReadyH.cons rfl (fun K hK => ?_) AllReadyH.nil)
      go_simp
      refine hK.out _ _ ⟨plan_cells isp6, ro_cells isl6⟩ (fun hHeld => ?_)
      clear hK K
      refine wpAnyH_done (by kernel_rfl) ?_ _
      have hT := HT.out
      clear HT hHeld
      by_cases hfl : r.flank = L
      rotate_left
      · rw [if_pos hfl] at hT
        subst hT
        rw [show decide (r.flank = L) = false by simp [hfl]]
        clear hfl
        go_wp2_with fail
        go_ret
        exact ⟨rfl, F6⟩
      rw [if_neg (by simp [hfl])] at hT
      rw [show decide (r.flank = L) = true by simp [hfl]]
      have HT := Lib.hid hT
      clear hT hfl
      go_upto_region 10 with (fail)
      refine wp_region_held_drew (S := fun Wx => (Wx.cell? ⟨w.heap.size, 0, none⟩ = some (.slice C.A1 C.l.length C.c1) ∧ Wx.cell? ⟨w.heap.size, 1, none⟩ = some (.slice C.A2 C.js.length C.c2) ∧ Wx.cell? ⟨w.heap.size, 2, none⟩ = some (.slice C.A3 C.sg.length C.c3) ∧ Wx.cell? ⟨w.heap.size, 3, none⟩ = some (.slice C.A4 C.cr.length C.c4) ∧ Wx.cell? ⟨w.heap.size, 4, none⟩ = some (.slice C.A5 C.rs.length C.c5) ∧ Wx.cell? ⟨w.heap.size, 5, none⟩ = some (.int .i64 C.tm.age) ∧ Wx.cell? ⟨w.heap.size, 6, none⟩ = some (.int .i64 C.tm.brake) ∧ Wx.cell? ⟨w.heap.size, 7, none⟩ = some (.int .i64 C.tm.hold) ∧ Wx.cell? ⟨w.heap.size, 8, none⟩ = some (.int .i64 C.tm.budget)) ∧ (Wx.cell? ⟨bl, 0, none⟩ = some (.int .i64 r.entry) ∧ Wx.cell? ⟨bl, 1, none⟩ = some (.int .i64 r.exit) ∧ Wx.cell? ⟨bl, 2, none⟩ = some (.slice r.a1 r.path.length r.c1) ∧ Wx.cell? ⟨bl, 3, none⟩ = some (.slice r.a2 r.flank.length r.c2) ∧ Wx.cell? ⟨bl, 4, none⟩ = some (.slice r.a3 r.over.length r.c3) ∧ Wx.cell? ⟨bl, 5, none⟩ = some (.bool r.shunt))) (by kernel_rfl) ⟨plan_cells isp6, ro_cells isl6⟩ (fun hHeld => ?_)
      refine wpAnyH_take (i := 0) (v := ?_) rfl (by kernel_rfl) (by kernel_rfl) (by kernel_rfl) (fun _ _ _ h => h) (Or.inl ⟨by rfl, ?_⟩) (by assumption) ?_
      rotate_left
      · intro Wx hSw
        try dsimp only at hSw
        go_simp
        try with_reducible rfl
      try simp only [Act.put]
      refine wpAnyH_take (i := 1) (v := ?_) rfl (by kernel_rfl) (by kernel_rfl) (by kernel_rfl) (fun _ _ _ h => h) (Or.inl ⟨by rfl, ?_⟩) (by assumption) ?_
      rotate_left
      · intro Wx hSw
        try dsimp only at hSw
        go_simp
        try with_reducible rfl
      try simp only [Act.put]
      refine wpAnyH_take (i := 2) (v := ?_) rfl (by kernel_rfl) (by kernel_rfl) (by kernel_rfl) (fun _ _ _ h => h) (Or.inl ⟨by rfl, ?_⟩) (by assumption) ?_
      rotate_left
      · intro Wx hSw
        try dsimp only at hSw
        go_simp
        try with_reducible rfl
      try simp only [Act.put]
      refine wpAnyH_take (i := 3) (v := ?_) rfl (by kernel_rfl) (by kernel_rfl) (by kernel_rfl) (fun _ _ _ h => h) (Or.inl ⟨by rfl, ?_⟩) (by assumption) ?_
      rotate_left
      · intro Wx hSw
        try dsimp only at hSw
        go_simp
        try with_reducible rfl
      try simp only [Act.put]
      refine wpAnyH_take (i := 4) (v := ?_) rfl (by kernel_rfl) (by kernel_rfl) (by kernel_rfl) (fun _ _ _ h => h) (Or.inl ⟨by rfl, ?_⟩) (by assumption) ?_
      rotate_left
      · intro Wx hSw
        try dsimp only at hSw
        go_simp
        try with_reducible rfl
      try simp only [Act.put]
      refine wpAnyH_ready (rs := [5]) (by kernel_rfl) (by simp) (AllReadyH.cons rfl (fun K hK => ?_) AllReadyH.nil)
      go_simp
      refine (KO _ F6.drew (hro6.drewN 1)).mono ?_
      rintro e w7 ⟨A2, cA2, rfl, hown, f7⟩
      have isl7 := isl6.drew.fr f7 id
      have isp7 := isp6.drew.fr f7 id
      have F7 := fr_nil F6.drew f7
      have hro7 := (hro6.drewN 1).fr f7
      go_simp
      refine hK.out _ _ ⟨plan_cells isp7, ro_cells isl7⟩ (fun hHeld => ?_)
      obtain ⟨_, _, _, hn1, hn2, _, _⟩ := wide_form hown
      have hrd := wide_rd hown
      have hlen : (overM C.l C.js C.sg r.rt).length ≤ 9223372036854775807 := Nat.le_trans (Nat.le_trans hn1 hn2) (by decide)
      have KE := fun W (f : Fr (fun _ => False) w7 W) => iequal_any (c := r.c3) (c' := cA2) W (hro7.over.fr f fun _ _ => id) (hrd.fr f fun _ _ => id) (by have := hro7.b3; omega) hlen
      clear hK K KO isp6 isl6 F6 hro6 f7 hown hn1 hn2 hrd hlen
      generalize overM C.l C.js C.sg r.rt = L2 at KE HT ⊢
      refine wpAnyH_ready (rs := [6]) (by kernel_rfl) (by simp) (AllReadyH.cons rfl (fun K hK => ?_) AllReadyH.nil)
      go_simp
      refine (KE _ (Fr.refl _ _)).mono ?_
      rintro e w8 ⟨rfl, f8⟩
      have isl8 := isl7.fr f8 id
      have isp8 := isp7.fr f8 id
      have F8 := fr_nil F7 f8
      go_simp
      refine hK.out _ _ ⟨plan_cells isp8, ro_cells isl8⟩ (fun hHeld => ?_)
      clear hK K KE isp7 isl7 F7 hro7 f8
      refine wpAnyH_take (i := 7) (v := ?_) rfl (by kernel_rfl) (by kernel_rfl) (by kernel_rfl) (fun _ _ _ h => h) (Or.inl ⟨by rfl, ?_⟩) (by assumption) ?_
      rotate_left
      · intro Wx hSw
        try dsimp only at hSw
        go_simp
        try with_reducible rfl
      try simp only [Act.put]
      refine wpAnyH_ready (rs := [8]) (by kernel_rfl) (by simp) (AllReadyH.cons rfl (fun K hK => ?_) AllReadyH.nil)
      go_simp
      refine hK.out _ _ ⟨plan_cells isp8, ro_cells isl8⟩ (fun hHeld => ?_)
      clear hK K
      refine wpAnyH_done (by kernel_rfl) ?_ _
      have hT := HT.out
      clear HT hHeld
      by_cases hov : r.over = L2
      rotate_left
      · rw [if_pos hov] at hT
        subst hT
        rw [show decide (r.over = L2) = false by simp [hov]]
        clear hov
        go_wp2_with fail
        go_ret
        exact ⟨rfl, F8⟩
      rw [if_neg (by simp [hov])] at hT
      rw [show decide (r.over = L2) = true by simp [hov]]
      have HT := Lib.hid hT
      clear hT hov
      go_wp2_with fail
      go_roundw
      case rel => exact ⟨k + 1, by omega, by go_num, by rw [HR.out]; exact HT.out, isp8, F8⟩
      case measure => simp [intOf]; omega
    · rw [List.drop_eq_nil_of_le (by omega)] at hT
      obtain rfl : T = 0 := by rw [← hT]; rfl
      go_wp2_with fail
      go_ret
      exact ⟨rfl, fr⟩
end Go.Proofs.Ytnnacdkijeoeoaa

namespace Go.Proofs.Ytnnacdkijeoeoaa
open Go.RowKit

set_option maxHeartbeats 4000000 in
theorem croutes_many (C : Cm) (w : World) (hl12 : ¬ C.rs.length ≤ 12) :
    Calls Try.prog 36 #[C.val] w fun e w' => e = .returned (.int .i64 9) ∧ Fr (fun _ => False) w w' := by
  have z12 : ((12 : Int) < (C.rs.length : Int)) = True := by simp; omega
  unfold Cm.val Cm.arr at *
  go_enter Try.func36, Try.ntmps36
  go_wp2_with fail
  go_ret
  exact ⟨rfl, (Fr.refl _ _).alloc _⟩

theorem sigs_in {l : List Sec} {js : List Jo} (hj : jointsB l js = true) : ∀ (sg : List Sg), sigsB js sg = true → ∀ s ∈ sg, isSecB l.length s.sec = true
  | [], _, s, hs => by simp at hs
  | x :: r, h, s, hs => by
    unfold sigsB at h
    simp only [Bool.and_eq_true] at h
    rcases List.mem_cons.1 hs with e | hs
    · subst e
      exact ends_in hj h.1
    · exact sigs_in hj r h.2.2 s hs
theorem croutes_out (C : Cm) (w : World) (h : C.Ok w) (hj : jointsB C.l C.js = true) (hsg : ∀ s ∈ C.sg, isSecB C.l.length s.sec = true) :
    Calls Try.prog 36 #[C.val] w fun e w' => e = .returned (.int .i64 (if ¬ C.rs.length ≤ 12 then 9 else routesE C.l C.js C.sg (C.rs.map Ro.rt))) ∧ Fr (fun _ => False) w w' := by
  by_cases hl : C.rs.length ≤ 12
  · rw [if_neg (by simpa using hl)]
    exact croutes_any C w h hj hsg hl
  · rw [if_pos hl]
    exact croutes_many C w hl

set_option maxRecDepth 4000 in
set_option maxHeartbeats 8000000 in
theorem chk_any (C : Cm) (w : World) (h : C.Ok w) :
    Calls Try.prog 23 #[C.val] w fun e w' => e = .returned (.int .i64 (checkE C.cf)) ∧ Fr (fun _ => False) w w' := by
  have b1 := h.b1
  have k2 := h.k2
  have l2 := h.l2
  have KT := fun W (f : Fr (fun _ => False) w W) => check_any (c1 := C.c1) (c2 := C.c2) W (h.secs.fr f fun _ _ => id) (h.jos.fr f fun _ _ => id) (by omega) l2 k2
  have KS := fun W (f : Fr (fun _ => False) w W) => signals_any C W (h.fr f)
  have KC := fun W (f : Fr (fun _ => False) w W) => crossings_any C W (h.fr f)
  have KR := fun hj hsg W (f : Fr (fun _ => False) w W) => croutes_out C W (h.fr f) hj hsg
  have KM := fun W => timing_any C.tm W
  have HC : checkE C.cf = (if checkB C.l C.js = false then 6 else if (decide (C.sg.length ≤ 12) && sigsB C.js C.sg) = false then 7 else if (decide (C.cr.length ≤ 4) && crsB C.l C.cr) = false then 8
      else if (if ¬ C.rs.length ≤ 12 then 9 else routesE C.l C.js C.sg (C.rs.map Ro.rt)) ≠ 0 then (if ¬ C.rs.length ≤ 12 then 9 else routesE C.l C.js C.sg (C.rs.map Ro.rt)) else if timeB C.tm = false then 12 else 0) := by
    unfold checkE Cm.cf
    dsimp only
    rw [List.length_map]
    by_cases hl : C.rs.length ≤ 12
    · simp only [hl, not_true_eq_false, if_false]
    · simp only [hl, not_false_eq_true, if_true]
      rfl
  rw [HC]
  clear HC b1 k2 l2
  generalize hT : (if checkB C.l C.js = false then 6 else if (decide (C.sg.length ≤ 12) && sigsB C.js C.sg) = false then 7 else if (decide (C.cr.length ≤ 4) && crsB C.l C.cr) = false then 8
      else if (if ¬ C.rs.length ≤ 12 then 9 else routesE C.l C.js C.sg (C.rs.map Ro.rt)) ≠ 0 then (if ¬ C.rs.length ≤ 12 then 9 else routesE C.l C.js C.sg (C.rs.map Ro.rt)) else if timeB C.tm = false then 12 else (0 : Int)) = T
  generalize (if ¬ C.rs.length ≤ 12 then 9 else routesE C.l C.js C.sg (C.rs.map Ro.rt)) = RE at *
  have isp0 := (Is.new (w.alloc (.cells C.arr 30)) 97 C.arr)
  have F0 := (((Fr.refl (fun _ => False) w).alloc (.cells C.arr 30)).alloc (.cells C.arr 97))
  unfold Cm.val Cm.arr at *
  cases ht : checkB C.l C.js
  · rw [if_pos ht] at hT
    subst hT
    rw [ht] at KT
    have e6 : errOf false = 6 := rfl
    rw [e6] at KT
    clear KS KC KR KM e6 ht isp0 F0
    go_enter Try.func23, Try.ntmps23
    go_wp2_with fail
    refine (KT _ (((Fr.refl _ _).alloc _).alloc _)).mono ?_
    rintro _ w1 ⟨rfl, f1⟩
    go_wp2_with fail
    go_ret
    exact ⟨rfl, fr_nil (((Fr.refl _ _).alloc _).alloc _) f1⟩
  have hj : jointsB C.l C.js = true := by
    unfold checkB at ht
    simp only [Bool.and_eq_true] at ht
    exact ht.2.2.1
  have KR := fun hsg W f => KR hj hsg W f
  have HJ := Lib.hid hj
  rw [if_neg (by rw [ht]; decide)] at hT
  rw [ht] at KT
  have e0 : errOf true = 0 := rfl
  rw [e0] at KT
  have HT := Lib.hid hT
  clear e0 hT ht hj isp0 F0
  go_enter Try.func23, Try.ntmps23
  go_wp2_with fail
  refine (KT _ (((Fr.refl _ _).alloc _).alloc _)).mono ?_
  rintro _ w1 ⟨rfl, f1⟩
  have isp : Is w1 (w.heap.size + 1) 97 C.arr := (is_new_at (by simp) _ _).fr f1 id
  have F := fr_nil (((Fr.refl (fun _ => False) w).alloc (.cells #[.slice C.A1 C.l.length C.c1, .slice C.A2 C.js.length C.c2, .slice C.A3 C.sg.length C.c3, .slice C.A4 C.cr.length C.c4, .slice C.A5 C.rs.length C.c5, .int .i64 C.tm.age, .int .i64 C.tm.brake, .int .i64 C.tm.hold, .int .i64 C.tm.budget] 30)).alloc (.cells C.arr 97)) f1
  clear f1 KT
  obtain ⟨p0, p1, p2, p3, p4, p5, p6, p7, p8⟩ := plan_cells isp
  go_wp2_with fail
  refine (KS _ F).mono ?_
  rintro _ w2 ⟨rfl, f2⟩
  have isp := isp.fr f2 id
  have F := fr_nil F f2
  have hT := HT.out
  clear f2 KS HT p0 p1 p2 p3 p4 p5 p6 p7 p8
  cases hs : (decide (C.sg.length ≤ 12) && sigsB C.js C.sg)
  · rw [if_pos hs] at hT
    subst hT
    clear hs KR
    go_wp2_with fail
    go_ret
    exact ⟨rfl, F⟩
  rw [if_neg (by rw [hs]; decide)] at hT
  have hsg := sigs_in HJ.out C.sg (by simp only [Bool.and_eq_true] at hs; exact hs.2)
  have KR := fun W f => KR hsg W f
  have HT := Lib.hid hT
  clear hT hs hsg HJ
  obtain ⟨p0, p1, p2, p3, p4, p5, p6, p7, p8⟩ := plan_cells isp
  go_wp2_with fail
  refine (KC _ F).mono ?_
  rintro _ w3 ⟨rfl, f3⟩
  have isp := isp.fr f3 id
  have F := fr_nil F f3
  have hT := HT.out
  clear f3 KC HT p0 p1 p2 p3 p4 p5 p6 p7 p8
  cases hc : (decide (C.cr.length ≤ 4) && crsB C.l C.cr)
  · rw [if_pos hc] at hT
    subst hT
    clear hc
    go_wp2_with fail
    go_ret
    exact ⟨rfl, F⟩
  rw [if_neg (by rw [hc]; decide)] at hT
  have HT := Lib.hid hT
  clear hT hc
  obtain ⟨p0, p1, p2, p3, p4, p5, p6, p7, p8⟩ := plan_cells isp
  go_wp2_with fail
  refine (KR _ F).mono ?_
  rintro _ w4 ⟨rfl, f4⟩
  have isp := isp.fr f4 id
  have F := fr_nil F f4
  have hT := HT.out
  clear f4 KR HT p0 p1 p2 p3 p4 p5 p6 p7 p8
  by_cases hr : RE = 0
  rotate_left
  · rw [if_pos hr] at hT
    subst hT
    have z := (by simpa using hr : ¬ RE = 0)
    clear hr
    go_wp2_with fail
    go_ret
    exact ⟨rfl, F⟩
  rw [if_neg (by simpa using hr)] at hT
  subst hr
  have HT := Lib.hid hT
  clear hT
  obtain ⟨p0, p1, p2, p3, p4, p5, p6, p7, p8⟩ := plan_cells isp
  go_wp2_with fail
  refine (KM _).mono ?_
  rintro _ w5 ⟨rfl, f5⟩
  have F := fr_nil F f5
  have hT := HT.out
  clear f5 KM HT p0 p1 p2 p3 p4 p5 p6 p7 p8
  cases hm : timeB C.tm
  · rw [if_pos hm] at hT
    subst hT
    clear hm
    go_wp2_with fail
    go_ret
    exact ⟨rfl, F⟩
  · rw [if_neg (by rw [hm]; decide)] at hT
    subst hT
    clear hm
    go_wp2_with fail
    go_ret
    exact ⟨rfl, F⟩
end Go.Proofs.Ytnnacdkijeoeoaa


import Derived.Test.YtnnacdkijeoeoaaV3
import Derived.Test.YtnnacdkijeoeoaaLtob
import Derived.Test.YtnnacdkijeoeoaaKa
import Derived.SizedLaws
/- The walk of BlockGrants (written by gen/grants.py). -/
namespace Go.Proofs.Ytnnacdkijeoeoaa.Bk
open Go.RowKit Lk Nk

set_option maxRecDepth 100000 in
set_option maxHeartbeats 16000000 in
theorem grants_walk {w : World} (x y : Int) : Calls Try.prog 5 #[.int .i64 x, .int .i64 y] w fun e w' => e = .returned (.bool true) ∧ Fr (fun _ => False) w w' := by
  obtain ⟨d, hd, hdl⟩ := umod x 1000 (by decide) (by decide)
  obtain ⟨wt, hwt, hwl⟩ := umod y 20 (by decide) (by decide)
  have hd : wrap64 ((IntKind.u64.wrap x).tmod 1000) = (d : Int) := hd
  have hwt : wrap64 ((IntKind.u64.wrap y).tmod 20) = (wt : Int) := hwt
  obtain ⟨a, ha⟩ : ∃ a : Int, a = 1 + (d : Int) := ⟨_, rfl⟩
  have HA : Hid (0 < a ∧ a ≤ 1000) := Lib.hid (by omega)
  have HWT := Lib.hid hwl
  have hwa : wrap64 (1 + (d : Int)) = a := by rw [IntWalk.wrap64_in _ ⟨by omega, by omega⟩]; exact ha.symm
  clear hdl ha hwl
  go_enter Try.func5, Try.ntmps5
  go_wp2_with fail
  refine (lives15_any _).mono ?_
  rintro _ w1 ⟨rfl, f1⟩
  have HF := Lib.hid f1
  clear f1
  go_upto_region 5 with fail
  simp only [hd, hwt, hwa]
  clear hd hwt hwa
  go_wp2_with fail
  refine (end15_any _).mono ?_
  rintro _ w2 ⟨C, rfl, hcf, -, hC, f1⟩
  have HF := Lib.hid (fr_nil HF.out f1)
  have HCF := Lib.hid hcf
  have HC := Lib.hid hC
  clear f1 hcf hC
  unfold Cm.val Cm.arr
  go_wp2_with fail
  refine (fresh_any _).mono ?_
  rintro _ w3 ⟨K0, rfl, hk0, ho0, f1⟩
  have KH := hear_any (HC.out.fr f1) (endK_ok ho0 hk0 fresh_ok) 1 ⟨a, 0, 0⟩
  rw [hk0, HCF.out, show hearM endF freshK 1 ⟨a, 0, 0⟩ = (endK 0 0 default (lnG 0 0 a 0 0) false, 0) from end_hear fresh_ok (tm_ok (by have := HA.out; show 0 ≤ a; omega) (by have := HA.out; show a ≤ _; omega)) rfl rfl] at KH
  have HF3 := Lib.hid (fr_nil HF.out f1)
  clear f1 hk0 ho0 HF
  unfold Cm.val Cm.arr Km.val Km.arr Bl.val at KH
  unfold Km.val Km.arr
  go_wp2_with fail
  refine KH.mono ?_
  rintro _ w4 ⟨K, rfl, hk, ho, f1⟩
  have HB := Lib.hid (bx_made ho f1)
  have HK := Lib.hid hk
  clear KH hk ho f1 HC HCF
  unfold Km.val Km.arr
  go_upto_region 6 with fail
  generalize hw5 : w4.alloc _ = w5 at *
  generalize w4.heap.size = kb at *
  clear hw5
  go_cut [7] from 31 to 38 (fun v7 wx => ∃ K2 : Km, v7 = .int .i64 0 ∧ K2.kp = endK (-2) 0 default (lnG a 0 a 0 0) true ∧ Bx w3 wx kb K2)
  case first =>
    have KT : ∀ (C : Cm) (V : Vm) (oc : Int), oc = 0 → C.cf = endF → V.vp = seenV oc 1 → ∀ W, Fr (fun _ => False) w5 W → C.Ok W → V.Ok W → Calls Try.prog 7 #[.agg #[.slice C.A1 C.l.length C.c1, .slice C.A2 C.js.length C.c2, .slice C.A3 C.sg.length C.c3, .slice C.A4 C.cr.length C.c4, .slice C.A5 C.rs.length C.c5, .int .i64 C.tm.age, .int .i64 C.tm.brake, .int .i64 C.tm.hold, .int .i64 C.tm.budget], .agg #[.slice K.A1 K.own.length K.c1, .slice K.A2 K.rts.length K.c2, .slice K.A3 K.pts.length K.c3, .slice K.A4 K.crs.length K.c4, .slice K.A5 K.lns.length K.c5, .slice K.A6 K.rss.length K.c6, .bool K.dirty], .agg #[.slice V.A1 V.occ.length V.c1, .slice V.A2 V.pos.length V.c2, .slice V.A3 V.shut.length V.c3, .slice V.A4 V.lamp.length V.c4], .int .i64 1] W (Out W (endK (-2) 0 default (lnG a 0 a 0 0) true, 0)) := fun C V oc hoc hcf hv W f hC hV => by
      subst hoc
      have := bstep_any hC (endK_ok (HB.out.own.fr f fun _ _ => id) HK.out (okG (by decide) (by decide) (by decide) (by have := HA.out; omega) (by decide) (by decide))) hV 1
      rw [hv, hcf, HK.out, end_step (okG (by decide) (by decide) (by decide) (by have := HA.out; omega) (by decide) (by decide)) (by decide), sA HA.out.1] at this
      exact this
    have HS : Hid (∀ W, Fr (fun q => q = kb) w5 W → (fun Wx => True) W) := Lib.hid fun _ _ => trivial
    have HG := Lib.hid (Fr.refl (fun _ => False) w5).drew
    refine wp_region_held_drew (S := (fun Wx => True)) (by kernel_rfl) (HS.out _ (Fr.refl _ w5).drew) (fun hHeld => ?_)
    generalize w5.drew = wdr at *
    refine wpAnyH_ready (rs := [0, 1]) (by kernel_rfl) (by simp) (AllReadyH.cons rfl (fun KK hKK => ?_) (AllReadyH.cons rfl (fun KK hKK => ?_) (AllReadyH.nil)))
    · go_simp
      have HGP := HG
      refine (end15_any _).mono ?_
      rintro _ v0 ⟨C, rfl, hcf, -, hC, fa⟩
      have HG := Lib.hid (fr_nil HG.out fa)
      have HF0 := Lib.hid (Fr.refl (fun _ => False) v0)
      have HCF := Lib.hid hcf
      have HC := Lib.hid hC
      clear hcf hC
      unfold Cm.val Cm.arr
      clear fa
      (with_reducible refine hKK.out _ _ (HS.out _ (HG.out.mono fun _ _ h => h.elim)) (fun hHeld => ?_))
      clear hKK KK
      refine wpAnyH_ready (rs := [1, 2]) (by kernel_rfl) (by simp) (AllReadyH.cons rfl (fun KK hKK => ?_) (AllReadyH.cons rfl (fun KK hKK => ?_) (AllReadyH.nil)))
      · obtain ⟨k0, k1, k2, k3, k4, k5, k6⟩ := Bk.core7 (K := K) (HB.out.is.fr HG.out id)
        go_simp
        (with_reducible refine hKK.out _ _ (HS.out _ (HG.out.mono fun _ _ h => h.elim)) (fun hHeld => ?_))
        clear hKK KK
        clear k0 k1 k2 k3 k4 k5 k6
        refine wpAnyH_ready (rs := [2]) (by kernel_rfl) (by simp) (AllReadyH.cons rfl (fun KK hKK => ?_) (AllReadyH.nil))
        go_simp
        have HGP := HG
        refine (seen15_any 0 1 _).mono ?_
        rintro _ v1 ⟨V, rfl, hv, hvo, fa⟩
        have HG := Lib.hid (fr_nil HG.out fa)
        have HF0 := Lib.hid (fr_nil HF0.out fa)
        have HF1 := Lib.hid (Fr.refl (fun _ => False) v1)
        have HVP := Lib.hid hv
        have HVO := Lib.hid hvo
        clear hv hvo
        unfold Vm.val Vm.arr
        clear fa
        (with_reducible refine hKK.out _ _ (HS.out _ (HG.out.mono fun _ _ h => h.elim)) (fun hHeld => ?_))
        clear hKK KK
        refine wpAnyH_ready (rs := [3]) (by kernel_rfl) (by simp) (AllReadyH.cons rfl (fun KK hKK => ?_) (AllReadyH.nil))
        go_simp
        have HGP := HG
        refine (KT C V _ rfl HCF.out HVP.out _ HG.out (HC.out.fr HF0.out) (HVO.out.fr HF1.out)).mono ?_
        rintro _ v2 ⟨K2, rfl, hk2, ho2, fa⟩
        have HG := Lib.hid (fr_nil HG.out fa)
        have HF0 := Lib.hid (fr_nil HF0.out fa)
        have HF1 := Lib.hid (fr_nil HF1.out fa)
        have HF2 := Lib.hid (Fr.refl (fun _ => False) v2)
        have HK2 := Lib.hid hk2
        have HO := Lib.hid (ho2.base HGP.out.size)
        clear hk2 ho2
        unfold Km.val Km.arr
        clear fa
        (with_reducible refine hKK.out _ _ (HS.out _ (HG.out.mono fun _ _ h => h.elim)) (fun hHeld => ?_))
        clear hKK KK
        refine wpAnyH_take (i := 4) (oi := { dst := some 31, op := _, type := _, pos := _, after := _, guard := _ }) (v := ?_) rfl (by kernel_rfl) (by kernel_rfl) (by kernel_rfl) (fun _ _ _ h => h) (Or.inl ⟨by rfl, ?_⟩) (by assumption) ?_
        rotate_left
        · intro Wx hSw
          try dsimp only at hSw
          go_simp
          try with_reducible rfl
        try simp only [Act.put, List.setIfInBounds_toArray, List.set_cons_zero, List.set_cons_succ]
        refine wpAnyH_take (i := 5) (oi := { dst := some 36, op := _, type := _, pos := _, after := _, guard := _ }) (v := ?_) rfl (by kernel_rfl) (by kernel_rfl) (by kernel_rfl) (fun _ _ _ h => h) (Or.inl ⟨by rfl, ?_⟩) (by assumption) ?_
        rotate_left
        · intro Wx hSw
          try dsimp only at hSw
          go_simp
          try with_reducible rfl
        try simp only [Act.put, List.setIfInBounds_toArray, List.set_cons_zero, List.set_cons_succ]
        refine wpAnyH_take (i := 6) (oi := { dst := some 37, op := _, type := _, pos := _, after := _, guard := _ }) (v := ?_) rfl (by kernel_rfl) (by kernel_rfl) (by kernel_rfl) (fun _ _ _ h => h) (Or.inl ⟨by rfl, ?_⟩) (by assumption) ?_
        rotate_left
        · intro Wx hSw
          try dsimp only at hSw
          go_simp
          try with_reducible rfl
        try simp only [Act.put, List.setIfInBounds_toArray, List.set_cons_zero, List.set_cons_succ]
        refine wpAnyH_ready (rs := [7]) (by kernel_rfl) (by simp) (AllReadyH.cons rfl (fun KK hKK => ?_) (AllReadyH.nil))
        have isr := HB.out.is.fr HG.out id
        unfold Km.arr at isr
        obtain ⟨m0, m1, m2, m3, m4, m5, m6⟩ := seven isr
        have z0 := isr.frozen 0
        have z1 := isr.frozen 1
        have z2 := isr.frozen 2
        have z3 := isr.frozen 3
        have z4 := isr.frozen 4
        have z5 := isr.frozen 5
        have z6 := isr.frozen 6
        go_simp
        have HOn := Lib.hid ((HO.out.fr HF2.out fun _ _ => id).base HB.out.f.size)
        have isR := (((((((isr.set 0 (.slice K2.A1 K2.own.length K2.c1)).set 1 (.slice K2.A2 K2.rts.length K2.c2)).set 2 (.slice K2.A3 K2.pts.length K2.c3)).set 3 (.slice K2.A4 K2.crs.length K2.c4)).set 4 (.slice K2.A5 K2.lns.length K2.c5)).set 5 (.slice K2.A6 K2.rss.length K2.c6)).set 6 (.bool K2.dirty))
        have fR := ((((((((Fr.refl (fun q => q = kb) (v2)).setCell (p := ⟨kb, 0, none⟩) (.inl rfl) (.slice K2.A1 K2.own.length K2.c1)).setCell (p := ⟨kb, 1, none⟩) (.inl rfl) (.slice K2.A2 K2.rts.length K2.c2)).setCell (p := ⟨kb, 2, none⟩) (.inl rfl) (.slice K2.A3 K2.pts.length K2.c3)).setCell (p := ⟨kb, 3, none⟩) (.inl rfl) (.slice K2.A4 K2.crs.length K2.c4)).setCell (p := ⟨kb, 4, none⟩) (.inl rfl) (.slice K2.A5 K2.lns.length K2.c5)).setCell (p := ⟨kb, 5, none⟩) (.inl rfl) (.slice K2.A6 K2.rss.length K2.c6)).setCell (p := ⟨kb, 6, none⟩) (.inl rfl) (.bool K2.dirty))
        simp only [List.setIfInBounds_toArray, List.set_cons_zero, List.set_cons_succ] at isR
        have HBN : Hid (Bx w3 ((((((((v2).setCell ⟨kb, 0, none⟩ (.slice K2.A1 K2.own.length K2.c1)).setCell ⟨kb, 1, none⟩ (.slice K2.A2 K2.rts.length K2.c2)).setCell ⟨kb, 2, none⟩ (.slice K2.A3 K2.pts.length K2.c3)).setCell ⟨kb, 3, none⟩ (.slice K2.A4 K2.crs.length K2.c4)).setCell ⟨kb, 4, none⟩ (.slice K2.A5 K2.lns.length K2.c5)).setCell ⟨kb, 5, none⟩ (.slice K2.A6 K2.rss.length K2.c6)).setCell ⟨kb, 6, none⟩ (.bool K2.dirty)) kb K2) := Lib.hid ⟨isR, HOn.out.fr fR fun k hk e => HOn.out.ne_is isr (by decide) (by decide) (by decide) (by decide) (e ▸ hk), ((((((((fr_nil HB.out.f HG.out).setCell (p := ⟨kb, 0, none⟩) (.inr HB.out.hb) (.slice K2.A1 K2.own.length K2.c1)).setCell (p := ⟨kb, 1, none⟩) (.inr HB.out.hb) (.slice K2.A2 K2.rts.length K2.c2)).setCell (p := ⟨kb, 2, none⟩) (.inr HB.out.hb) (.slice K2.A3 K2.pts.length K2.c3)).setCell (p := ⟨kb, 3, none⟩) (.inr HB.out.hb) (.slice K2.A4 K2.crs.length K2.c4)).setCell (p := ⟨kb, 4, none⟩) (.inr HB.out.hb) (.slice K2.A5 K2.lns.length K2.c5)).setCell (p := ⟨kb, 5, none⟩) (.inr HB.out.hb) (.slice K2.A6 K2.rss.length K2.c6)).setCell (p := ⟨kb, 6, none⟩) (.inr HB.out.hb) (.bool K2.dirty)), HB.out.hb⟩
        have HFK := Lib.hid ((HG.out.mono (S' := fun q => q = kb) fun _ _ h => h.elim).trans fR fun _ _ h => h)
        clear isR fR isr
        (with_reducible refine hKK.out _ _ (HS.out _ HFK.out) (fun hHeld => ?_))
        clear hKK KK
        clear m0 m1 m2 m3 m4 m5 m6 z0 z1 z2 z3 z4 z5 z6
        refine wpAnyH_take (i := 8) (oi := { dst := some 7, op := _, type := _, pos := _, after := _, guard := _ }) (v := ?_) rfl (by kernel_rfl) (by kernel_rfl) (by kernel_rfl) (fun _ _ _ h => h) (Or.inl ⟨by rfl, ?_⟩) (by assumption) ?_
        rotate_left
        · intro Wx hSw
          try dsimp only at hSw
          go_simp
          try with_reducible rfl
        try simp only [Act.put, List.setIfInBounds_toArray, List.set_cons_zero, List.set_cons_succ]
        refine wpAnyH_done (by kernel_rfl) ?_ _
        go_wp2_with fail
        go_meet
        case rel => exact ⟨K2, rfl, HK2.out, HBN.out⟩
      · go_simp
        have HGP := HG
        refine (seen15_any 0 1 _).mono ?_
        rintro _ v1 ⟨V, rfl, hv, hvo, fa⟩
        have HG := Lib.hid (fr_nil HG.out fa)
        have HF0 := Lib.hid (fr_nil HF0.out fa)
        have HF1 := Lib.hid (Fr.refl (fun _ => False) v1)
        have HVP := Lib.hid hv
        have HVO := Lib.hid hvo
        clear hv hvo
        unfold Vm.val Vm.arr
        clear fa
        (with_reducible refine hKK.out _ _ (HS.out _ (HG.out.mono fun _ _ h => h.elim)) (fun hHeld => ?_))
        clear hKK KK
        refine wpAnyH_ready (rs := [1]) (by kernel_rfl) (by simp) (AllReadyH.cons rfl (fun KK hKK => ?_) (AllReadyH.nil))
        obtain ⟨k0, k1, k2, k3, k4, k5, k6⟩ := Bk.core7 (K := K) (HB.out.is.fr HG.out id)
        go_simp
        (with_reducible refine hKK.out _ _ (HS.out _ (HG.out.mono fun _ _ h => h.elim)) (fun hHeld => ?_))
        clear hKK KK
        clear k0 k1 k2 k3 k4 k5 k6
        refine wpAnyH_ready (rs := [3]) (by kernel_rfl) (by simp) (AllReadyH.cons rfl (fun KK hKK => ?_) (AllReadyH.nil))
        go_simp
        have HGP := HG
        refine (KT C V _ rfl HCF.out HVP.out _ HG.out (HC.out.fr HF0.out) (HVO.out.fr HF1.out)).mono ?_
        rintro _ v2 ⟨K2, rfl, hk2, ho2, fa⟩
        have HG := Lib.hid (fr_nil HG.out fa)
        have HF0 := Lib.hid (fr_nil HF0.out fa)
        have HF1 := Lib.hid (fr_nil HF1.out fa)
        have HF2 := Lib.hid (Fr.refl (fun _ => False) v2)
        have HK2 := Lib.hid hk2
        have HO := Lib.hid (ho2.base HGP.out.size)
        clear hk2 ho2
        unfold Km.val Km.arr
        clear fa
        (with_reducible refine hKK.out _ _ (HS.out _ (HG.out.mono fun _ _ h => h.elim)) (fun hHeld => ?_))
        clear hKK KK
        refine wpAnyH_take (i := 4) (oi := { dst := some 31, op := _, type := _, pos := _, after := _, guard := _ }) (v := ?_) rfl (by kernel_rfl) (by kernel_rfl) (by kernel_rfl) (fun _ _ _ h => h) (Or.inl ⟨by rfl, ?_⟩) (by assumption) ?_
        rotate_left
        · intro Wx hSw
          try dsimp only at hSw
          go_simp
          try with_reducible rfl
        try simp only [Act.put, List.setIfInBounds_toArray, List.set_cons_zero, List.set_cons_succ]
        refine wpAnyH_take (i := 5) (oi := { dst := some 36, op := _, type := _, pos := _, after := _, guard := _ }) (v := ?_) rfl (by kernel_rfl) (by kernel_rfl) (by kernel_rfl) (fun _ _ _ h => h) (Or.inl ⟨by rfl, ?_⟩) (by assumption) ?_
        rotate_left
        · intro Wx hSw
          try dsimp only at hSw
          go_simp
          try with_reducible rfl
        try simp only [Act.put, List.setIfInBounds_toArray, List.set_cons_zero, List.set_cons_succ]
        refine wpAnyH_take (i := 6) (oi := { dst := some 37, op := _, type := _, pos := _, after := _, guard := _ }) (v := ?_) rfl (by kernel_rfl) (by kernel_rfl) (by kernel_rfl) (fun _ _ _ h => h) (Or.inl ⟨by rfl, ?_⟩) (by assumption) ?_
        rotate_left
        · intro Wx hSw
          try dsimp only at hSw
          go_simp
          try with_reducible rfl
        try simp only [Act.put, List.setIfInBounds_toArray, List.set_cons_zero, List.set_cons_succ]
        refine wpAnyH_ready (rs := [7]) (by kernel_rfl) (by simp) (AllReadyH.cons rfl (fun KK hKK => ?_) (AllReadyH.nil))
        have isr := HB.out.is.fr HG.out id
        unfold Km.arr at isr
        obtain ⟨m0, m1, m2, m3, m4, m5, m6⟩ := seven isr
        have z0 := isr.frozen 0
        have z1 := isr.frozen 1
        have z2 := isr.frozen 2
        have z3 := isr.frozen 3
        have z4 := isr.frozen 4
        have z5 := isr.frozen 5
        have z6 := isr.frozen 6
        go_simp
        have HOn := Lib.hid ((HO.out.fr HF2.out fun _ _ => id).base HB.out.f.size)
        have isR := (((((((isr.set 0 (.slice K2.A1 K2.own.length K2.c1)).set 1 (.slice K2.A2 K2.rts.length K2.c2)).set 2 (.slice K2.A3 K2.pts.length K2.c3)).set 3 (.slice K2.A4 K2.crs.length K2.c4)).set 4 (.slice K2.A5 K2.lns.length K2.c5)).set 5 (.slice K2.A6 K2.rss.length K2.c6)).set 6 (.bool K2.dirty))
        have fR := ((((((((Fr.refl (fun q => q = kb) (v2)).setCell (p := ⟨kb, 0, none⟩) (.inl rfl) (.slice K2.A1 K2.own.length K2.c1)).setCell (p := ⟨kb, 1, none⟩) (.inl rfl) (.slice K2.A2 K2.rts.length K2.c2)).setCell (p := ⟨kb, 2, none⟩) (.inl rfl) (.slice K2.A3 K2.pts.length K2.c3)).setCell (p := ⟨kb, 3, none⟩) (.inl rfl) (.slice K2.A4 K2.crs.length K2.c4)).setCell (p := ⟨kb, 4, none⟩) (.inl rfl) (.slice K2.A5 K2.lns.length K2.c5)).setCell (p := ⟨kb, 5, none⟩) (.inl rfl) (.slice K2.A6 K2.rss.length K2.c6)).setCell (p := ⟨kb, 6, none⟩) (.inl rfl) (.bool K2.dirty))
        simp only [List.setIfInBounds_toArray, List.set_cons_zero, List.set_cons_succ] at isR
        have HBN : Hid (Bx w3 ((((((((v2).setCell ⟨kb, 0, none⟩ (.slice K2.A1 K2.own.length K2.c1)).setCell ⟨kb, 1, none⟩ (.slice K2.A2 K2.rts.length K2.c2)).setCell ⟨kb, 2, none⟩ (.slice K2.A3 K2.pts.length K2.c3)).setCell ⟨kb, 3, none⟩ (.slice K2.A4 K2.crs.length K2.c4)).setCell ⟨kb, 4, none⟩ (.slice K2.A5 K2.lns.length K2.c5)).setCell ⟨kb, 5, none⟩ (.slice K2.A6 K2.rss.length K2.c6)).setCell ⟨kb, 6, none⟩ (.bool K2.dirty)) kb K2) := Lib.hid ⟨isR, HOn.out.fr fR fun k hk e => HOn.out.ne_is isr (by decide) (by decide) (by decide) (by decide) (e ▸ hk), ((((((((fr_nil HB.out.f HG.out).setCell (p := ⟨kb, 0, none⟩) (.inr HB.out.hb) (.slice K2.A1 K2.own.length K2.c1)).setCell (p := ⟨kb, 1, none⟩) (.inr HB.out.hb) (.slice K2.A2 K2.rts.length K2.c2)).setCell (p := ⟨kb, 2, none⟩) (.inr HB.out.hb) (.slice K2.A3 K2.pts.length K2.c3)).setCell (p := ⟨kb, 3, none⟩) (.inr HB.out.hb) (.slice K2.A4 K2.crs.length K2.c4)).setCell (p := ⟨kb, 4, none⟩) (.inr HB.out.hb) (.slice K2.A5 K2.lns.length K2.c5)).setCell (p := ⟨kb, 5, none⟩) (.inr HB.out.hb) (.slice K2.A6 K2.rss.length K2.c6)).setCell (p := ⟨kb, 6, none⟩) (.inr HB.out.hb) (.bool K2.dirty)), HB.out.hb⟩
        have HFK := Lib.hid ((HG.out.mono (S' := fun q => q = kb) fun _ _ h => h.elim).trans fR fun _ _ h => h)
        clear isR fR isr
        (with_reducible refine hKK.out _ _ (HS.out _ HFK.out) (fun hHeld => ?_))
        clear hKK KK
        clear m0 m1 m2 m3 m4 m5 m6 z0 z1 z2 z3 z4 z5 z6
        refine wpAnyH_take (i := 8) (oi := { dst := some 7, op := _, type := _, pos := _, after := _, guard := _ }) (v := ?_) rfl (by kernel_rfl) (by kernel_rfl) (by kernel_rfl) (fun _ _ _ h => h) (Or.inl ⟨by rfl, ?_⟩) (by assumption) ?_
        rotate_left
        · intro Wx hSw
          try dsimp only at hSw
          go_simp
          try with_reducible rfl
        try simp only [Act.put, List.setIfInBounds_toArray, List.set_cons_zero, List.set_cons_succ]
        refine wpAnyH_done (by kernel_rfl) ?_ _
        go_wp2_with fail
        go_meet
        case rel => exact ⟨K2, rfl, HK2.out, HBN.out⟩
    · obtain ⟨k0, k1, k2, k3, k4, k5, k6⟩ := Bk.core7 (K := K) (HB.out.is.fr HG.out id)
      go_simp
      (with_reducible refine hKK.out _ _ (HS.out _ (HG.out.mono fun _ _ h => h.elim)) (fun hHeld => ?_))
      clear hKK KK
      clear k0 k1 k2 k3 k4 k5 k6
      refine wpAnyH_ready (rs := [0]) (by kernel_rfl) (by simp) (AllReadyH.cons rfl (fun KK hKK => ?_) (AllReadyH.nil))
      go_simp
      have HGP := HG
      refine (end15_any _).mono ?_
      rintro _ v0 ⟨C, rfl, hcf, -, hC, fa⟩
      have HG := Lib.hid (fr_nil HG.out fa)
      have HF0 := Lib.hid (Fr.refl (fun _ => False) v0)
      have HCF := Lib.hid hcf
      have HC := Lib.hid hC
      clear hcf hC
      unfold Cm.val Cm.arr
      clear fa
      (with_reducible refine hKK.out _ _ (HS.out _ (HG.out.mono fun _ _ h => h.elim)) (fun hHeld => ?_))
      clear hKK KK
      refine wpAnyH_ready (rs := [2]) (by kernel_rfl) (by simp) (AllReadyH.cons rfl (fun KK hKK => ?_) (AllReadyH.nil))
      go_simp
      have HGP := HG
      refine (seen15_any 0 1 _).mono ?_
      rintro _ v1 ⟨V, rfl, hv, hvo, fa⟩
      have HG := Lib.hid (fr_nil HG.out fa)
      have HF0 := Lib.hid (fr_nil HF0.out fa)
      have HF1 := Lib.hid (Fr.refl (fun _ => False) v1)
      have HVP := Lib.hid hv
      have HVO := Lib.hid hvo
      clear hv hvo
      unfold Vm.val Vm.arr
      clear fa
      (with_reducible refine hKK.out _ _ (HS.out _ (HG.out.mono fun _ _ h => h.elim)) (fun hHeld => ?_))
      clear hKK KK
      refine wpAnyH_ready (rs := [3]) (by kernel_rfl) (by simp) (AllReadyH.cons rfl (fun KK hKK => ?_) (AllReadyH.nil))
      go_simp
      have HGP := HG
      refine (KT C V _ rfl HCF.out HVP.out _ HG.out (HC.out.fr HF0.out) (HVO.out.fr HF1.out)).mono ?_
      rintro _ v2 ⟨K2, rfl, hk2, ho2, fa⟩
      have HG := Lib.hid (fr_nil HG.out fa)
      have HF0 := Lib.hid (fr_nil HF0.out fa)
      have HF1 := Lib.hid (fr_nil HF1.out fa)
      have HF2 := Lib.hid (Fr.refl (fun _ => False) v2)
      have HK2 := Lib.hid hk2
      have HO := Lib.hid (ho2.base HGP.out.size)
      clear hk2 ho2
      unfold Km.val Km.arr
      clear fa
      (with_reducible refine hKK.out _ _ (HS.out _ (HG.out.mono fun _ _ h => h.elim)) (fun hHeld => ?_))
      clear hKK KK
      refine wpAnyH_take (i := 4) (oi := { dst := some 31, op := _, type := _, pos := _, after := _, guard := _ }) (v := ?_) rfl (by kernel_rfl) (by kernel_rfl) (by kernel_rfl) (fun _ _ _ h => h) (Or.inl ⟨by rfl, ?_⟩) (by assumption) ?_
      rotate_left
      · intro Wx hSw
        try dsimp only at hSw
        go_simp
        try with_reducible rfl
      try simp only [Act.put, List.setIfInBounds_toArray, List.set_cons_zero, List.set_cons_succ]
      refine wpAnyH_take (i := 5) (oi := { dst := some 36, op := _, type := _, pos := _, after := _, guard := _ }) (v := ?_) rfl (by kernel_rfl) (by kernel_rfl) (by kernel_rfl) (fun _ _ _ h => h) (Or.inl ⟨by rfl, ?_⟩) (by assumption) ?_
      rotate_left
      · intro Wx hSw
        try dsimp only at hSw
        go_simp
        try with_reducible rfl
      try simp only [Act.put, List.setIfInBounds_toArray, List.set_cons_zero, List.set_cons_succ]
      refine wpAnyH_take (i := 6) (oi := { dst := some 37, op := _, type := _, pos := _, after := _, guard := _ }) (v := ?_) rfl (by kernel_rfl) (by kernel_rfl) (by kernel_rfl) (fun _ _ _ h => h) (Or.inl ⟨by rfl, ?_⟩) (by assumption) ?_
      rotate_left
      · intro Wx hSw
        try dsimp only at hSw
        go_simp
        try with_reducible rfl
      try simp only [Act.put, List.setIfInBounds_toArray, List.set_cons_zero, List.set_cons_succ]
      refine wpAnyH_ready (rs := [7]) (by kernel_rfl) (by simp) (AllReadyH.cons rfl (fun KK hKK => ?_) (AllReadyH.nil))
      have isr := HB.out.is.fr HG.out id
      unfold Km.arr at isr
      obtain ⟨m0, m1, m2, m3, m4, m5, m6⟩ := seven isr
      have z0 := isr.frozen 0
      have z1 := isr.frozen 1
      have z2 := isr.frozen 2
      have z3 := isr.frozen 3
      have z4 := isr.frozen 4
      have z5 := isr.frozen 5
      have z6 := isr.frozen 6
      go_simp
      have HOn := Lib.hid ((HO.out.fr HF2.out fun _ _ => id).base HB.out.f.size)
      have isR := (((((((isr.set 0 (.slice K2.A1 K2.own.length K2.c1)).set 1 (.slice K2.A2 K2.rts.length K2.c2)).set 2 (.slice K2.A3 K2.pts.length K2.c3)).set 3 (.slice K2.A4 K2.crs.length K2.c4)).set 4 (.slice K2.A5 K2.lns.length K2.c5)).set 5 (.slice K2.A6 K2.rss.length K2.c6)).set 6 (.bool K2.dirty))
      have fR := ((((((((Fr.refl (fun q => q = kb) (v2)).setCell (p := ⟨kb, 0, none⟩) (.inl rfl) (.slice K2.A1 K2.own.length K2.c1)).setCell (p := ⟨kb, 1, none⟩) (.inl rfl) (.slice K2.A2 K2.rts.length K2.c2)).setCell (p := ⟨kb, 2, none⟩) (.inl rfl) (.slice K2.A3 K2.pts.length K2.c3)).setCell (p := ⟨kb, 3, none⟩) (.inl rfl) (.slice K2.A4 K2.crs.length K2.c4)).setCell (p := ⟨kb, 4, none⟩) (.inl rfl) (.slice K2.A5 K2.lns.length K2.c5)).setCell (p := ⟨kb, 5, none⟩) (.inl rfl) (.slice K2.A6 K2.rss.length K2.c6)).setCell (p := ⟨kb, 6, none⟩) (.inl rfl) (.bool K2.dirty))
      simp only [List.setIfInBounds_toArray, List.set_cons_zero, List.set_cons_succ] at isR
      have HBN : Hid (Bx w3 ((((((((v2).setCell ⟨kb, 0, none⟩ (.slice K2.A1 K2.own.length K2.c1)).setCell ⟨kb, 1, none⟩ (.slice K2.A2 K2.rts.length K2.c2)).setCell ⟨kb, 2, none⟩ (.slice K2.A3 K2.pts.length K2.c3)).setCell ⟨kb, 3, none⟩ (.slice K2.A4 K2.crs.length K2.c4)).setCell ⟨kb, 4, none⟩ (.slice K2.A5 K2.lns.length K2.c5)).setCell ⟨kb, 5, none⟩ (.slice K2.A6 K2.rss.length K2.c6)).setCell ⟨kb, 6, none⟩ (.bool K2.dirty)) kb K2) := Lib.hid ⟨isR, HOn.out.fr fR fun k hk e => HOn.out.ne_is isr (by decide) (by decide) (by decide) (by decide) (e ▸ hk), ((((((((fr_nil HB.out.f HG.out).setCell (p := ⟨kb, 0, none⟩) (.inr HB.out.hb) (.slice K2.A1 K2.own.length K2.c1)).setCell (p := ⟨kb, 1, none⟩) (.inr HB.out.hb) (.slice K2.A2 K2.rts.length K2.c2)).setCell (p := ⟨kb, 2, none⟩) (.inr HB.out.hb) (.slice K2.A3 K2.pts.length K2.c3)).setCell (p := ⟨kb, 3, none⟩) (.inr HB.out.hb) (.slice K2.A4 K2.crs.length K2.c4)).setCell (p := ⟨kb, 4, none⟩) (.inr HB.out.hb) (.slice K2.A5 K2.lns.length K2.c5)).setCell (p := ⟨kb, 5, none⟩) (.inr HB.out.hb) (.slice K2.A6 K2.rss.length K2.c6)).setCell (p := ⟨kb, 6, none⟩) (.inr HB.out.hb) (.bool K2.dirty)), HB.out.hb⟩
      have HFK := Lib.hid ((HG.out.mono (S' := fun q => q = kb) fun _ _ h => h.elim).trans fR fun _ _ h => h)
      clear isR fR isr
      (with_reducible refine hKK.out _ _ (HS.out _ HFK.out) (fun hHeld => ?_))
      clear hKK KK
      clear m0 m1 m2 m3 m4 m5 m6 z0 z1 z2 z3 z4 z5 z6
      refine wpAnyH_take (i := 8) (oi := { dst := some 7, op := _, type := _, pos := _, after := _, guard := _ }) (v := ?_) rfl (by kernel_rfl) (by kernel_rfl) (by kernel_rfl) (fun _ _ _ h => h) (Or.inl ⟨by rfl, ?_⟩) (by assumption) ?_
      rotate_left
      · intro Wx hSw
        try dsimp only at hSw
        go_simp
        try with_reducible rfl
      try simp only [Act.put, List.setIfInBounds_toArray, List.set_cons_zero, List.set_cons_succ]
      refine wpAnyH_done (by kernel_rfl) ?_ _
      go_wp2_with fail
      go_meet
      case rel => exact ⟨K2, rfl, HK2.out, HBN.out⟩
  case rest =>
    obtain ⟨K9, rfl, hk, hb⟩ := hcut
    have HB := Lib.hid hb
    have HK := Lib.hid hk
    clear hk hb
    generalize K9 = K at *
    obtain ⟨g1, o1, g5, o5, c0, d0, c1, c2, c3, c4, c5, c6, KL⟩ := look_at HB.out HK.out
    have KL := KL _ (Fr.refl _ _)
    dsimp only [lnG] at KL
    go_wp2_with fail
    refine KL.mono ?_
    rintro _ w6 ⟨rfl, f1⟩
    have HB := Lib.hid (HB.out.fr f1)
    clear f1 KL c0 c1 c2 c3 c4 c5 c6 d0
    have hfd := fun W => field_two 0 0 0 W
    have c6 : w6.cell? ⟨kb, 6, none⟩ = some (.bool K.dirty) := HB.out.is.cell 6
    have z6 := HB.out.is.frozen 6
    have HB9 := Lib.hid (HB.out.dirt false)
    have HK9 := Lib.hid (dirt_kp HK.out false)
    go_upto_region 10 with fail
    generalize w6.setCell _ _ = w7 at *
    clear c6 z6
    generalize ({ K with dirty := false } : Km) = K8 at *
    clear HB HK
    have HB := HB9
    have HK := HK9
    clear HB9 HK9
    obtain ⟨W1, hW1⟩ : ∃ W1 : Nat, W1 = wt + 1 := ⟨_, rfl⟩
    have hw1 : wrap64 ((wt : Int) + 1) = (W1 : Int) := by rw [IntWalk.wrap64_in _ ⟨by omega, by have := HWT.out; omega⟩, hW1]; omega
    have HW1 := Lib.hid (show W1 ≤ 20 by have := HWT.out; omega)
    clear hW1 HWT
    have KR := okG (o := -2) (gr := a) (pa := a) (told := 0) (pd := 0) (since := 0) (by decide) (by have := HA.out; omega) (by decide) (by have := HA.out; omega) (by decide) (by decide)
    clear KR
    generalize K8 = K at *
    go_wp2_with fail
    clear hfd
    go_loopg [7, 8, 9] W1 (fun gi v7 v8 v9 wr => ∃ (j : Nat) (t nw : Int) (K : Km), j ≤ W1 ∧ gi = W1 - j ∧ v7 = .int .i64 0 ∧ v8 = .int .i64 nw ∧ v9 = .int .i64 (j : Nat) ∧ nw = (j : Int) + 1 ∧ 0 ≤ t ∧ t ≤ 1000 ∧ K.kp = endK (-2) 0 default (lnG a t a 0 0) false ∧ Bx w3 wr kb K)
    case atStart => exact ⟨0, 0, 1, K, Nat.zero_le _, rfl, rfl, rfl, rfl, rfl, by decide, by decide, HK.out, HB.out⟩
    case round =>
      clear HB HK
      obtain ⟨j, t, nw, K7, hj, rfl, rfl, rfl, rfl, hnw, ht0, ht1, hk, hb⟩ := hrel
      generalize K7 = K at *
      have HB := Lib.hid hb
      have HK := Lib.hid hk
      have HJ := Lib.hid (And.intro hnw (And.intro ht0 ht1))
      clear hk hb hnw ht0 ht1
      by_cases hlt : j < W1
      · have HLT := Lib.hid hlt
        obtain ⟨n1, hn1⟩ : ∃ n1 : Int, n1 = nw + 1 := ⟨_, rfl⟩
        have h8 : wrap64 (nw + 1) = n1 := by rw [IntWalk.wrap64_in _ ⟨by have := HJ.out; omega, by have := HJ.out; have := HW1.out; omega⟩]; exact hn1.symm
        have HN1 : Hid (n1 = (j : Int) + 2 ∧ n1 ≤ 100) := Lib.hid (by have := HJ.out; have := HW1.out; omega)
        have i1 : (0 : Int) ≤ (j : Int) := by omega
        have i2 : (j : Int) < (W1 : Int) := by omega
        have i3 : (W1 : Int) ≤ 20 := by have := HW1.out; omega
        clear hlt hj hn1
        go_upto_region 15 with fail
        simp only [h8, hw1]
        clear h8 i1 i2 hw1
        go_cut [7] from 71 to 82 (fun v7 wx => ∃ K2 : Km, v7 = .int .i64 0 ∧ K2.kp = endK (-2) 0 default (lnG a a a 0 0) false ∧ Bx w3 wx kb K2)
        case first =>
          have KT : ∀ (C : Cm) (V : Vm) (oc : Int), C.cf = endF → V.vp = seenV oc n1 → ∀ W, Fr (fun _ => False) wr W → C.Ok W → V.Ok W → Calls Try.prog 7 #[.agg #[.slice C.A1 C.l.length C.c1, .slice C.A2 C.js.length C.c2, .slice C.A3 C.sg.length C.c3, .slice C.A4 C.cr.length C.c4, .slice C.A5 C.rs.length C.c5, .int .i64 C.tm.age, .int .i64 C.tm.brake, .int .i64 C.tm.hold, .int .i64 C.tm.budget], .agg #[.slice K.A1 K.own.length K.c1, .slice K.A2 K.rts.length K.c2, .slice K.A3 K.pts.length K.c3, .slice K.A4 K.crs.length K.c4, .slice K.A5 K.lns.length K.c5, .slice K.A6 K.rss.length K.c6, .bool K.dirty], .agg #[.slice V.A1 V.occ.length V.c1, .slice V.A2 V.pos.length V.c2, .slice V.A3 V.shut.length V.c3, .slice V.A4 V.lamp.length V.c4], .int .i64 n1] W (Out W (endK (-2) 0 default (lnG a a a 0 0) false, 0)) := fun C V oc hcf hv W f hC hV => by
            have := bstep_any hC (endK_ok (HB.out.own.fr f fun _ _ => id) HK.out (okG (by decide) (by have := HA.out; omega) (by have := HJ.out; omega) (by have := HA.out; omega) (by decide) (by decide))) hV n1
            rw [hv, hcf, HK.out, end_step (okG (by decide) (by have := HA.out; omega) (by have := HJ.out; omega) (by have := HA.out; omega) (by decide) (by decide)) (tm_ok (by have := HN1.out; omega) (by have := HN1.out; omega)), sB HA.out.1] at this
            exact this
          have HS : Hid (∀ W, Fr (fun q => q = kb) wr W → (fun Wx => True) W) := Lib.hid fun _ _ => trivial
          have HG := Lib.hid (Fr.refl (fun _ => False) wr).drew
          refine wp_region_held_drew (S := (fun Wx => True)) (by kernel_rfl) (HS.out _ (Fr.refl _ wr).drew) (fun hHeld => ?_)
          generalize wr.drew = wdr at *
          refine wpAnyH_take (i := 2) (oi := { dst := some 74, op := _, type := _, pos := _, after := _, guard := _ }) (v := ?_) rfl (by kernel_rfl) (by kernel_rfl) (by kernel_rfl) (fun _ _ _ h => h) (Or.inl ⟨by rfl, ?_⟩) (by assumption) ?_
          rotate_left
          · intro Wx hSw
            try dsimp only at hSw
            go_simp
            try with_reducible rfl
          try simp only [Act.put, List.setIfInBounds_toArray, List.set_cons_zero, List.set_cons_succ]
          refine wpAnyH_take (i := 3) (oi := { dst := some 75, op := _, type := _, pos := _, after := _, guard := _ }) (v := ?_) rfl (by kernel_rfl) (by kernel_rfl) (by kernel_rfl) (fun _ _ _ h => h) (Or.inl ⟨by rfl, ?_⟩) (by assumption) ?_
          rotate_left
          · intro Wx hSw
            try dsimp only at hSw
            go_simp
            try with_reducible rfl
          try simp only [Act.put, List.setIfInBounds_toArray, List.set_cons_zero, List.set_cons_succ]
          refine wpAnyH_take (i := 4) (oi := { dst := some 76, op := _, type := _, pos := _, after := _, guard := _ }) (v := ?_) rfl (by kernel_rfl) (by kernel_rfl) (by kernel_rfl) (fun _ _ _ h => h) (Or.inl ⟨by rfl, ?_⟩) (by assumption) ?_
          rotate_left
          · intro Wx hSw
            try dsimp only at hSw
            go_simp
            try with_reducible rfl
          try simp only [Act.put, List.setIfInBounds_toArray, List.set_cons_zero, List.set_cons_succ]
          refine wpAnyH_take (i := 6) (oi := { dst := some 78, op := _, type := _, pos := _, after := _, guard := _ }) (v := ?_) rfl (by kernel_rfl) (by kernel_rfl) (by kernel_rfl) (fun _ _ _ h => h) (Or.inl ⟨by rfl, ?_⟩) (by assumption) ?_
          rotate_left
          · intro Wx hSw
            try dsimp only at hSw
            go_simp
            try with_reducible rfl
          try simp only [Act.put, List.setIfInBounds_toArray, List.set_cons_zero, List.set_cons_succ]
          refine wpAnyH_ready (rs := [0, 1]) (by kernel_rfl) (by simp) (AllReadyH.cons rfl (fun KK hKK => ?_) (AllReadyH.cons rfl (fun KK hKK => ?_) (AllReadyH.nil)))
          · go_simp
            have HGP := HG
            refine (end15_any _).mono ?_
            rintro _ v0 ⟨C, rfl, hcf, -, hC, fa⟩
            have HG := Lib.hid (fr_nil HG.out fa)
            have HF0 := Lib.hid (Fr.refl (fun _ => False) v0)
            have HCF := Lib.hid hcf
            have HC := Lib.hid hC
            clear hcf hC
            unfold Cm.val Cm.arr
            clear fa
            (with_reducible refine hKK.out _ _ (HS.out _ (HG.out.mono fun _ _ h => h.elim)) (fun hHeld => ?_))
            clear hKK KK
            refine wpAnyH_ready (rs := [1, 5]) (by kernel_rfl) (by simp) (AllReadyH.cons rfl (fun KK hKK => ?_) (AllReadyH.cons rfl (fun KK hKK => ?_) (AllReadyH.nil)))
            · obtain ⟨k0, k1, k2, k3, k4, k5, k6⟩ := Bk.core7 (K := K) (HB.out.is.fr HG.out id)
              go_simp
              (with_reducible refine hKK.out _ _ (HS.out _ (HG.out.mono fun _ _ h => h.elim)) (fun hHeld => ?_))
              clear hKK KK
              clear k0 k1 k2 k3 k4 k5 k6
              refine wpAnyH_ready (rs := [5]) (by kernel_rfl) (by simp) (AllReadyH.cons rfl (fun KK hKK => ?_) (AllReadyH.nil))
              go_simp
              have HGP := HG
              refine (seen15_any _ n1 _).mono ?_
              rintro _ v1 ⟨V, rfl, hv, hvo, fa⟩
              have HG := Lib.hid (fr_nil HG.out fa)
              have HF0 := Lib.hid (fr_nil HF0.out fa)
              have HF1 := Lib.hid (Fr.refl (fun _ => False) v1)
              have HVP := Lib.hid hv
              have HVO := Lib.hid hvo
              clear hv hvo
              unfold Vm.val Vm.arr
              clear fa
              (with_reducible refine hKK.out _ _ (HS.out _ (HG.out.mono fun _ _ h => h.elim)) (fun hHeld => ?_))
              clear hKK KK
              refine wpAnyH_ready (rs := [7]) (by kernel_rfl) (by simp) (AllReadyH.cons rfl (fun KK hKK => ?_) (AllReadyH.nil))
              go_simp
              have HGP := HG
              refine (KT C V _ HCF.out HVP.out _ HG.out (HC.out.fr HF0.out) (HVO.out.fr HF1.out)).mono ?_
              rintro _ v2 ⟨K2, rfl, hk2, ho2, fa⟩
              have HG := Lib.hid (fr_nil HG.out fa)
              have HF0 := Lib.hid (fr_nil HF0.out fa)
              have HF1 := Lib.hid (fr_nil HF1.out fa)
              have HF2 := Lib.hid (Fr.refl (fun _ => False) v2)
              have HK2 := Lib.hid hk2
              have HO := Lib.hid (ho2.base HGP.out.size)
              clear hk2 ho2
              unfold Km.val Km.arr
              clear fa
              (with_reducible refine hKK.out _ _ (HS.out _ (HG.out.mono fun _ _ h => h.elim)) (fun hHeld => ?_))
              clear hKK KK
              refine wpAnyH_take (i := 8) (oi := { dst := some 71, op := _, type := _, pos := _, after := _, guard := _ }) (v := ?_) rfl (by kernel_rfl) (by kernel_rfl) (by kernel_rfl) (fun _ _ _ h => h) (Or.inl ⟨by rfl, ?_⟩) (by assumption) ?_
              rotate_left
              · intro Wx hSw
                try dsimp only at hSw
                go_simp
                try with_reducible rfl
              try simp only [Act.put, List.setIfInBounds_toArray, List.set_cons_zero, List.set_cons_succ]
              refine wpAnyH_take (i := 9) (oi := { dst := some 80, op := _, type := _, pos := _, after := _, guard := _ }) (v := ?_) rfl (by kernel_rfl) (by kernel_rfl) (by kernel_rfl) (fun _ _ _ h => h) (Or.inl ⟨by rfl, ?_⟩) (by assumption) ?_
              rotate_left
              · intro Wx hSw
                try dsimp only at hSw
                go_simp
                try with_reducible rfl
              try simp only [Act.put, List.setIfInBounds_toArray, List.set_cons_zero, List.set_cons_succ]
              refine wpAnyH_take (i := 10) (oi := { dst := some 81, op := _, type := _, pos := _, after := _, guard := _ }) (v := ?_) rfl (by kernel_rfl) (by kernel_rfl) (by kernel_rfl) (fun _ _ _ h => h) (Or.inl ⟨by rfl, ?_⟩) (by assumption) ?_
              rotate_left
              · intro Wx hSw
                try dsimp only at hSw
                go_simp
                try with_reducible rfl
              try simp only [Act.put, List.setIfInBounds_toArray, List.set_cons_zero, List.set_cons_succ]
              refine wpAnyH_ready (rs := [11]) (by kernel_rfl) (by simp) (AllReadyH.cons rfl (fun KK hKK => ?_) (AllReadyH.nil))
              have isr := HB.out.is.fr HG.out id
              unfold Km.arr at isr
              obtain ⟨m0, m1, m2, m3, m4, m5, m6⟩ := seven isr
              have z0 := isr.frozen 0
              have z1 := isr.frozen 1
              have z2 := isr.frozen 2
              have z3 := isr.frozen 3
              have z4 := isr.frozen 4
              have z5 := isr.frozen 5
              have z6 := isr.frozen 6
              go_simp
              have HOn := Lib.hid ((HO.out.fr HF2.out fun _ _ => id).base HB.out.f.size)
              have isR := (((((((isr.set 0 (.slice K2.A1 K2.own.length K2.c1)).set 1 (.slice K2.A2 K2.rts.length K2.c2)).set 2 (.slice K2.A3 K2.pts.length K2.c3)).set 3 (.slice K2.A4 K2.crs.length K2.c4)).set 4 (.slice K2.A5 K2.lns.length K2.c5)).set 5 (.slice K2.A6 K2.rss.length K2.c6)).set 6 (.bool K2.dirty))
              have fR := ((((((((Fr.refl (fun q => q = kb) (v2)).setCell (p := ⟨kb, 0, none⟩) (.inl rfl) (.slice K2.A1 K2.own.length K2.c1)).setCell (p := ⟨kb, 1, none⟩) (.inl rfl) (.slice K2.A2 K2.rts.length K2.c2)).setCell (p := ⟨kb, 2, none⟩) (.inl rfl) (.slice K2.A3 K2.pts.length K2.c3)).setCell (p := ⟨kb, 3, none⟩) (.inl rfl) (.slice K2.A4 K2.crs.length K2.c4)).setCell (p := ⟨kb, 4, none⟩) (.inl rfl) (.slice K2.A5 K2.lns.length K2.c5)).setCell (p := ⟨kb, 5, none⟩) (.inl rfl) (.slice K2.A6 K2.rss.length K2.c6)).setCell (p := ⟨kb, 6, none⟩) (.inl rfl) (.bool K2.dirty))
              simp only [List.setIfInBounds_toArray, List.set_cons_zero, List.set_cons_succ] at isR
              have HBN : Hid (Bx w3 ((((((((v2).setCell ⟨kb, 0, none⟩ (.slice K2.A1 K2.own.length K2.c1)).setCell ⟨kb, 1, none⟩ (.slice K2.A2 K2.rts.length K2.c2)).setCell ⟨kb, 2, none⟩ (.slice K2.A3 K2.pts.length K2.c3)).setCell ⟨kb, 3, none⟩ (.slice K2.A4 K2.crs.length K2.c4)).setCell ⟨kb, 4, none⟩ (.slice K2.A5 K2.lns.length K2.c5)).setCell ⟨kb, 5, none⟩ (.slice K2.A6 K2.rss.length K2.c6)).setCell ⟨kb, 6, none⟩ (.bool K2.dirty)) kb K2) := Lib.hid ⟨isR, HOn.out.fr fR fun k hk e => HOn.out.ne_is isr (by decide) (by decide) (by decide) (by decide) (e ▸ hk), ((((((((fr_nil HB.out.f HG.out).setCell (p := ⟨kb, 0, none⟩) (.inr HB.out.hb) (.slice K2.A1 K2.own.length K2.c1)).setCell (p := ⟨kb, 1, none⟩) (.inr HB.out.hb) (.slice K2.A2 K2.rts.length K2.c2)).setCell (p := ⟨kb, 2, none⟩) (.inr HB.out.hb) (.slice K2.A3 K2.pts.length K2.c3)).setCell (p := ⟨kb, 3, none⟩) (.inr HB.out.hb) (.slice K2.A4 K2.crs.length K2.c4)).setCell (p := ⟨kb, 4, none⟩) (.inr HB.out.hb) (.slice K2.A5 K2.lns.length K2.c5)).setCell (p := ⟨kb, 5, none⟩) (.inr HB.out.hb) (.slice K2.A6 K2.rss.length K2.c6)).setCell (p := ⟨kb, 6, none⟩) (.inr HB.out.hb) (.bool K2.dirty)), HB.out.hb⟩
              have HFK := Lib.hid ((HG.out.mono (S' := fun q => q = kb) fun _ _ h => h.elim).trans fR fun _ _ h => h)
              clear isR fR isr
              (with_reducible refine hKK.out _ _ (HS.out _ HFK.out) (fun hHeld => ?_))
              clear hKK KK
              clear m0 m1 m2 m3 m4 m5 m6 z0 z1 z2 z3 z4 z5 z6
              refine wpAnyH_take (i := 12) (oi := { dst := some 7, op := _, type := _, pos := _, after := _, guard := _ }) (v := ?_) rfl (by kernel_rfl) (by kernel_rfl) (by kernel_rfl) (fun _ _ _ h => h) (Or.inl ⟨by rfl, ?_⟩) (by assumption) ?_
              rotate_left
              · intro Wx hSw
                try dsimp only at hSw
                go_simp
                try with_reducible rfl
              try simp only [Act.put, List.setIfInBounds_toArray, List.set_cons_zero, List.set_cons_succ]
              refine wpAnyH_done (by kernel_rfl) ?_ _
              go_wp2_with fail
              go_meet
              case rel => exact ⟨K2, rfl, HK2.out, HBN.out⟩
            · go_simp
              have HGP := HG
              refine (seen15_any _ n1 _).mono ?_
              rintro _ v1 ⟨V, rfl, hv, hvo, fa⟩
              have HG := Lib.hid (fr_nil HG.out fa)
              have HF0 := Lib.hid (fr_nil HF0.out fa)
              have HF1 := Lib.hid (Fr.refl (fun _ => False) v1)
              have HVP := Lib.hid hv
              have HVO := Lib.hid hvo
              clear hv hvo
              unfold Vm.val Vm.arr
              clear fa
              (with_reducible refine hKK.out _ _ (HS.out _ (HG.out.mono fun _ _ h => h.elim)) (fun hHeld => ?_))
              clear hKK KK
              refine wpAnyH_ready (rs := [1]) (by kernel_rfl) (by simp) (AllReadyH.cons rfl (fun KK hKK => ?_) (AllReadyH.nil))
              obtain ⟨k0, k1, k2, k3, k4, k5, k6⟩ := Bk.core7 (K := K) (HB.out.is.fr HG.out id)
              go_simp
              (with_reducible refine hKK.out _ _ (HS.out _ (HG.out.mono fun _ _ h => h.elim)) (fun hHeld => ?_))
              clear hKK KK
              clear k0 k1 k2 k3 k4 k5 k6
              refine wpAnyH_ready (rs := [7]) (by kernel_rfl) (by simp) (AllReadyH.cons rfl (fun KK hKK => ?_) (AllReadyH.nil))
              go_simp
              have HGP := HG
              refine (KT C V _ HCF.out HVP.out _ HG.out (HC.out.fr HF0.out) (HVO.out.fr HF1.out)).mono ?_
              rintro _ v2 ⟨K2, rfl, hk2, ho2, fa⟩
              have HG := Lib.hid (fr_nil HG.out fa)
              have HF0 := Lib.hid (fr_nil HF0.out fa)
              have HF1 := Lib.hid (fr_nil HF1.out fa)
              have HF2 := Lib.hid (Fr.refl (fun _ => False) v2)
              have HK2 := Lib.hid hk2
              have HO := Lib.hid (ho2.base HGP.out.size)
              clear hk2 ho2
              unfold Km.val Km.arr
              clear fa
              (with_reducible refine hKK.out _ _ (HS.out _ (HG.out.mono fun _ _ h => h.elim)) (fun hHeld => ?_))
              clear hKK KK
              refine wpAnyH_take (i := 8) (oi := { dst := some 71, op := _, type := _, pos := _, after := _, guard := _ }) (v := ?_) rfl (by kernel_rfl) (by kernel_rfl) (by kernel_rfl) (fun _ _ _ h => h) (Or.inl ⟨by rfl, ?_⟩) (by assumption) ?_
              rotate_left
              · intro Wx hSw
                try dsimp only at hSw
                go_simp
                try with_reducible rfl
              try simp only [Act.put, List.setIfInBounds_toArray, List.set_cons_zero, List.set_cons_succ]
              refine wpAnyH_take (i := 9) (oi := { dst := some 80, op := _, type := _, pos := _, after := _, guard := _ }) (v := ?_) rfl (by kernel_rfl) (by kernel_rfl) (by kernel_rfl) (fun _ _ _ h => h) (Or.inl ⟨by rfl, ?_⟩) (by assumption) ?_
              rotate_left
              · intro Wx hSw
                try dsimp only at hSw
                go_simp
                try with_reducible rfl
              try simp only [Act.put, List.setIfInBounds_toArray, List.set_cons_zero, List.set_cons_succ]
              refine wpAnyH_take (i := 10) (oi := { dst := some 81, op := _, type := _, pos := _, after := _, guard := _ }) (v := ?_) rfl (by kernel_rfl) (by kernel_rfl) (by kernel_rfl) (fun _ _ _ h => h) (Or.inl ⟨by rfl, ?_⟩) (by assumption) ?_
              rotate_left
              · intro Wx hSw
                try dsimp only at hSw
                go_simp
                try with_reducible rfl
              try simp only [Act.put, List.setIfInBounds_toArray, List.set_cons_zero, List.set_cons_succ]
              refine wpAnyH_ready (rs := [11]) (by kernel_rfl) (by simp) (AllReadyH.cons rfl (fun KK hKK => ?_) (AllReadyH.nil))
              have isr := HB.out.is.fr HG.out id
              unfold Km.arr at isr
              obtain ⟨m0, m1, m2, m3, m4, m5, m6⟩ := seven isr
              have z0 := isr.frozen 0
              have z1 := isr.frozen 1
              have z2 := isr.frozen 2
              have z3 := isr.frozen 3
              have z4 := isr.frozen 4
              have z5 := isr.frozen 5
              have z6 := isr.frozen 6
              go_simp
              have HOn := Lib.hid ((HO.out.fr HF2.out fun _ _ => id).base HB.out.f.size)
              have isR := (((((((isr.set 0 (.slice K2.A1 K2.own.length K2.c1)).set 1 (.slice K2.A2 K2.rts.length K2.c2)).set 2 (.slice K2.A3 K2.pts.length K2.c3)).set 3 (.slice K2.A4 K2.crs.length K2.c4)).set 4 (.slice K2.A5 K2.lns.length K2.c5)).set 5 (.slice K2.A6 K2.rss.length K2.c6)).set 6 (.bool K2.dirty))
              have fR := ((((((((Fr.refl (fun q => q = kb) (v2)).setCell (p := ⟨kb, 0, none⟩) (.inl rfl) (.slice K2.A1 K2.own.length K2.c1)).setCell (p := ⟨kb, 1, none⟩) (.inl rfl) (.slice K2.A2 K2.rts.length K2.c2)).setCell (p := ⟨kb, 2, none⟩) (.inl rfl) (.slice K2.A3 K2.pts.length K2.c3)).setCell (p := ⟨kb, 3, none⟩) (.inl rfl) (.slice K2.A4 K2.crs.length K2.c4)).setCell (p := ⟨kb, 4, none⟩) (.inl rfl) (.slice K2.A5 K2.lns.length K2.c5)).setCell (p := ⟨kb, 5, none⟩) (.inl rfl) (.slice K2.A6 K2.rss.length K2.c6)).setCell (p := ⟨kb, 6, none⟩) (.inl rfl) (.bool K2.dirty))
              simp only [List.setIfInBounds_toArray, List.set_cons_zero, List.set_cons_succ] at isR
              have HBN : Hid (Bx w3 ((((((((v2).setCell ⟨kb, 0, none⟩ (.slice K2.A1 K2.own.length K2.c1)).setCell ⟨kb, 1, none⟩ (.slice K2.A2 K2.rts.length K2.c2)).setCell ⟨kb, 2, none⟩ (.slice K2.A3 K2.pts.length K2.c3)).setCell ⟨kb, 3, none⟩ (.slice K2.A4 K2.crs.length K2.c4)).setCell ⟨kb, 4, none⟩ (.slice K2.A5 K2.lns.length K2.c5)).setCell ⟨kb, 5, none⟩ (.slice K2.A6 K2.rss.length K2.c6)).setCell ⟨kb, 6, none⟩ (.bool K2.dirty)) kb K2) := Lib.hid ⟨isR, HOn.out.fr fR fun k hk e => HOn.out.ne_is isr (by decide) (by decide) (by decide) (by decide) (e ▸ hk), ((((((((fr_nil HB.out.f HG.out).setCell (p := ⟨kb, 0, none⟩) (.inr HB.out.hb) (.slice K2.A1 K2.own.length K2.c1)).setCell (p := ⟨kb, 1, none⟩) (.inr HB.out.hb) (.slice K2.A2 K2.rts.length K2.c2)).setCell (p := ⟨kb, 2, none⟩) (.inr HB.out.hb) (.slice K2.A3 K2.pts.length K2.c3)).setCell (p := ⟨kb, 3, none⟩) (.inr HB.out.hb) (.slice K2.A4 K2.crs.length K2.c4)).setCell (p := ⟨kb, 4, none⟩) (.inr HB.out.hb) (.slice K2.A5 K2.lns.length K2.c5)).setCell (p := ⟨kb, 5, none⟩) (.inr HB.out.hb) (.slice K2.A6 K2.rss.length K2.c6)).setCell (p := ⟨kb, 6, none⟩) (.inr HB.out.hb) (.bool K2.dirty)), HB.out.hb⟩
              have HFK := Lib.hid ((HG.out.mono (S' := fun q => q = kb) fun _ _ h => h.elim).trans fR fun _ _ h => h)
              clear isR fR isr
              (with_reducible refine hKK.out _ _ (HS.out _ HFK.out) (fun hHeld => ?_))
              clear hKK KK
              clear m0 m1 m2 m3 m4 m5 m6 z0 z1 z2 z3 z4 z5 z6
              refine wpAnyH_take (i := 12) (oi := { dst := some 7, op := _, type := _, pos := _, after := _, guard := _ }) (v := ?_) rfl (by kernel_rfl) (by kernel_rfl) (by kernel_rfl) (fun _ _ _ h => h) (Or.inl ⟨by rfl, ?_⟩) (by assumption) ?_
              rotate_left
              · intro Wx hSw
                try dsimp only at hSw
                go_simp
                try with_reducible rfl
              try simp only [Act.put, List.setIfInBounds_toArray, List.set_cons_zero, List.set_cons_succ]
              refine wpAnyH_done (by kernel_rfl) ?_ _
              go_wp2_with fail
              go_meet
              case rel => exact ⟨K2, rfl, HK2.out, HBN.out⟩
          · obtain ⟨k0, k1, k2, k3, k4, k5, k6⟩ := Bk.core7 (K := K) (HB.out.is.fr HG.out id)
            go_simp
            (with_reducible refine hKK.out _ _ (HS.out _ (HG.out.mono fun _ _ h => h.elim)) (fun hHeld => ?_))
            clear hKK KK
            clear k0 k1 k2 k3 k4 k5 k6
            refine wpAnyH_ready (rs := [0]) (by kernel_rfl) (by simp) (AllReadyH.cons rfl (fun KK hKK => ?_) (AllReadyH.nil))
            go_simp
            have HGP := HG
            refine (end15_any _).mono ?_
            rintro _ v0 ⟨C, rfl, hcf, -, hC, fa⟩
            have HG := Lib.hid (fr_nil HG.out fa)
            have HF0 := Lib.hid (Fr.refl (fun _ => False) v0)
            have HCF := Lib.hid hcf
            have HC := Lib.hid hC
            clear hcf hC
            unfold Cm.val Cm.arr
            clear fa
            (with_reducible refine hKK.out _ _ (HS.out _ (HG.out.mono fun _ _ h => h.elim)) (fun hHeld => ?_))
            clear hKK KK
            refine wpAnyH_ready (rs := [5]) (by kernel_rfl) (by simp) (AllReadyH.cons rfl (fun KK hKK => ?_) (AllReadyH.nil))
            go_simp
            have HGP := HG
            refine (seen15_any _ n1 _).mono ?_
            rintro _ v1 ⟨V, rfl, hv, hvo, fa⟩
            have HG := Lib.hid (fr_nil HG.out fa)
            have HF0 := Lib.hid (fr_nil HF0.out fa)
            have HF1 := Lib.hid (Fr.refl (fun _ => False) v1)
            have HVP := Lib.hid hv
            have HVO := Lib.hid hvo
            clear hv hvo
            unfold Vm.val Vm.arr
            clear fa
            (with_reducible refine hKK.out _ _ (HS.out _ (HG.out.mono fun _ _ h => h.elim)) (fun hHeld => ?_))
            clear hKK KK
            refine wpAnyH_ready (rs := [7]) (by kernel_rfl) (by simp) (AllReadyH.cons rfl (fun KK hKK => ?_) (AllReadyH.nil))
            go_simp
            have HGP := HG
            refine (KT C V _ HCF.out HVP.out _ HG.out (HC.out.fr HF0.out) (HVO.out.fr HF1.out)).mono ?_
            rintro _ v2 ⟨K2, rfl, hk2, ho2, fa⟩
            have HG := Lib.hid (fr_nil HG.out fa)
            have HF0 := Lib.hid (fr_nil HF0.out fa)
            have HF1 := Lib.hid (fr_nil HF1.out fa)
            have HF2 := Lib.hid (Fr.refl (fun _ => False) v2)
            have HK2 := Lib.hid hk2
            have HO := Lib.hid (ho2.base HGP.out.size)
            clear hk2 ho2
            unfold Km.val Km.arr
            clear fa
            (with_reducible refine hKK.out _ _ (HS.out _ (HG.out.mono fun _ _ h => h.elim)) (fun hHeld => ?_))
            clear hKK KK
            refine wpAnyH_take (i := 8) (oi := { dst := some 71, op := _, type := _, pos := _, after := _, guard := _ }) (v := ?_) rfl (by kernel_rfl) (by kernel_rfl) (by kernel_rfl) (fun _ _ _ h => h) (Or.inl ⟨by rfl, ?_⟩) (by assumption) ?_
            rotate_left
            · intro Wx hSw
              try dsimp only at hSw
              go_simp
              try with_reducible rfl
            try simp only [Act.put, List.setIfInBounds_toArray, List.set_cons_zero, List.set_cons_succ]
            refine wpAnyH_take (i := 9) (oi := { dst := some 80, op := _, type := _, pos := _, after := _, guard := _ }) (v := ?_) rfl (by kernel_rfl) (by kernel_rfl) (by kernel_rfl) (fun _ _ _ h => h) (Or.inl ⟨by rfl, ?_⟩) (by assumption) ?_
            rotate_left
            · intro Wx hSw
              try dsimp only at hSw
              go_simp
              try with_reducible rfl
            try simp only [Act.put, List.setIfInBounds_toArray, List.set_cons_zero, List.set_cons_succ]
            refine wpAnyH_take (i := 10) (oi := { dst := some 81, op := _, type := _, pos := _, after := _, guard := _ }) (v := ?_) rfl (by kernel_rfl) (by kernel_rfl) (by kernel_rfl) (fun _ _ _ h => h) (Or.inl ⟨by rfl, ?_⟩) (by assumption) ?_
            rotate_left
            · intro Wx hSw
              try dsimp only at hSw
              go_simp
              try with_reducible rfl
            try simp only [Act.put, List.setIfInBounds_toArray, List.set_cons_zero, List.set_cons_succ]
            refine wpAnyH_ready (rs := [11]) (by kernel_rfl) (by simp) (AllReadyH.cons rfl (fun KK hKK => ?_) (AllReadyH.nil))
            have isr := HB.out.is.fr HG.out id
            unfold Km.arr at isr
            obtain ⟨m0, m1, m2, m3, m4, m5, m6⟩ := seven isr
            have z0 := isr.frozen 0
            have z1 := isr.frozen 1
            have z2 := isr.frozen 2
            have z3 := isr.frozen 3
            have z4 := isr.frozen 4
            have z5 := isr.frozen 5
            have z6 := isr.frozen 6
            go_simp
            have HOn := Lib.hid ((HO.out.fr HF2.out fun _ _ => id).base HB.out.f.size)
            have isR := (((((((isr.set 0 (.slice K2.A1 K2.own.length K2.c1)).set 1 (.slice K2.A2 K2.rts.length K2.c2)).set 2 (.slice K2.A3 K2.pts.length K2.c3)).set 3 (.slice K2.A4 K2.crs.length K2.c4)).set 4 (.slice K2.A5 K2.lns.length K2.c5)).set 5 (.slice K2.A6 K2.rss.length K2.c6)).set 6 (.bool K2.dirty))
            have fR := ((((((((Fr.refl (fun q => q = kb) (v2)).setCell (p := ⟨kb, 0, none⟩) (.inl rfl) (.slice K2.A1 K2.own.length K2.c1)).setCell (p := ⟨kb, 1, none⟩) (.inl rfl) (.slice K2.A2 K2.rts.length K2.c2)).setCell (p := ⟨kb, 2, none⟩) (.inl rfl) (.slice K2.A3 K2.pts.length K2.c3)).setCell (p := ⟨kb, 3, none⟩) (.inl rfl) (.slice K2.A4 K2.crs.length K2.c4)).setCell (p := ⟨kb, 4, none⟩) (.inl rfl) (.slice K2.A5 K2.lns.length K2.c5)).setCell (p := ⟨kb, 5, none⟩) (.inl rfl) (.slice K2.A6 K2.rss.length K2.c6)).setCell (p := ⟨kb, 6, none⟩) (.inl rfl) (.bool K2.dirty))
            simp only [List.setIfInBounds_toArray, List.set_cons_zero, List.set_cons_succ] at isR
            have HBN : Hid (Bx w3 ((((((((v2).setCell ⟨kb, 0, none⟩ (.slice K2.A1 K2.own.length K2.c1)).setCell ⟨kb, 1, none⟩ (.slice K2.A2 K2.rts.length K2.c2)).setCell ⟨kb, 2, none⟩ (.slice K2.A3 K2.pts.length K2.c3)).setCell ⟨kb, 3, none⟩ (.slice K2.A4 K2.crs.length K2.c4)).setCell ⟨kb, 4, none⟩ (.slice K2.A5 K2.lns.length K2.c5)).setCell ⟨kb, 5, none⟩ (.slice K2.A6 K2.rss.length K2.c6)).setCell ⟨kb, 6, none⟩ (.bool K2.dirty)) kb K2) := Lib.hid ⟨isR, HOn.out.fr fR fun k hk e => HOn.out.ne_is isr (by decide) (by decide) (by decide) (by decide) (e ▸ hk), ((((((((fr_nil HB.out.f HG.out).setCell (p := ⟨kb, 0, none⟩) (.inr HB.out.hb) (.slice K2.A1 K2.own.length K2.c1)).setCell (p := ⟨kb, 1, none⟩) (.inr HB.out.hb) (.slice K2.A2 K2.rts.length K2.c2)).setCell (p := ⟨kb, 2, none⟩) (.inr HB.out.hb) (.slice K2.A3 K2.pts.length K2.c3)).setCell (p := ⟨kb, 3, none⟩) (.inr HB.out.hb) (.slice K2.A4 K2.crs.length K2.c4)).setCell (p := ⟨kb, 4, none⟩) (.inr HB.out.hb) (.slice K2.A5 K2.lns.length K2.c5)).setCell (p := ⟨kb, 5, none⟩) (.inr HB.out.hb) (.slice K2.A6 K2.rss.length K2.c6)).setCell (p := ⟨kb, 6, none⟩) (.inr HB.out.hb) (.bool K2.dirty)), HB.out.hb⟩
            have HFK := Lib.hid ((HG.out.mono (S' := fun q => q = kb) fun _ _ h => h.elim).trans fR fun _ _ h => h)
            clear isR fR isr
            (with_reducible refine hKK.out _ _ (HS.out _ HFK.out) (fun hHeld => ?_))
            clear hKK KK
            clear m0 m1 m2 m3 m4 m5 m6 z0 z1 z2 z3 z4 z5 z6
            refine wpAnyH_take (i := 12) (oi := { dst := some 7, op := _, type := _, pos := _, after := _, guard := _ }) (v := ?_) rfl (by kernel_rfl) (by kernel_rfl) (by kernel_rfl) (fun _ _ _ h => h) (Or.inl ⟨by rfl, ?_⟩) (by assumption) ?_
            rotate_left
            · intro Wx hSw
              try dsimp only at hSw
              go_simp
              try with_reducible rfl
            try simp only [Act.put, List.setIfInBounds_toArray, List.set_cons_zero, List.set_cons_succ]
            refine wpAnyH_done (by kernel_rfl) ?_ _
            go_wp2_with fail
            go_meet
            case rel => exact ⟨K2, rfl, HK2.out, HBN.out⟩
        case rest =>
          obtain ⟨K9, rfl, hk, hb⟩ := hcut
          clear HB HK
          have HB := Lib.hid hb
          have HK := Lib.hid hk
          clear hk hb
          generalize K9 = K at *
          obtain ⟨g1, o1, g5, o5, c0, d0, c1, c2, c3, c4, c5, c6, KL⟩ := look_at HB.out HK.out
          have KL := KL _ (Fr.refl _ _)
          dsimp only [lnG] at KL
          have hfd := fun W => field_two 0 0 a W
          have i9 : wrap64 ((j : Int) + 1) = ((j + 1 : Nat) : Int) := by rw [IntWalk.wrap64_in _ ⟨by omega, by have := HLT.out; have := HW1.out; omega⟩]; omega
          go_wp2_with fail
          refine KL.mono ?_
          rintro _ w6 ⟨rfl, f1⟩
          have HB := Lib.hid (HB.out.fr f1)
          clear f1 KL c0 c1 c2 c3 c4 c5 c6 d0
          go_wp2_with fail
          go_roundg (W1 - (j + 1))
          case measure => have := HLT.out; omega
          case rel => exact ⟨j + 1, a, n1, K, HLT.out, rfl, rfl, rfl, by rw [i9], by have := HN1.out; push_cast; omega, by have := HA.out; omega, by have := HA.out; omega, HK.out, HB.out⟩
      · have hjW : j = W1 := by omega
        subst hjW
        clear hlt hj
        obtain ⟨t, ht, nw, hnw⟩ : ∃ t' : Int, t' = t ∧ ∃ nw' : Int, nw' = nw := ⟨_, rfl, _, rfl⟩
        subst ht hnw
        go_upto_region 18 with fail
        simp only [hw1]
        clear hw1
        go_cut [6] from 98 to 107 (fun v6 wx => ∃ K2 : Km, v6 = .int .i64 0 ∧ K2.kp = endK (-2) 0 default (lnG a t a a 0) false ∧ Bx w3 wx kb K2)
        case first =>
          have KH : ∀ C : Cm, C.cf = endF → ∀ W, Fr (fun _ => False) wr W → C.Ok W → Calls Try.prog 9 #[.agg #[.slice C.A1 C.l.length C.c1, .slice C.A2 C.js.length C.c2, .slice C.A3 C.sg.length C.c3, .slice C.A4 C.cr.length C.c4, .slice C.A5 C.rs.length C.c5, .int .i64 C.tm.age, .int .i64 C.tm.brake, .int .i64 C.tm.hold, .int .i64 C.tm.budget], .agg #[.slice K.A1 K.own.length K.c1, .slice K.A2 K.rts.length K.c2, .slice K.A3 K.pts.length K.c3, .slice K.A4 K.crs.length K.c4, .slice K.A5 K.lns.length K.c5, .slice K.A6 K.rss.length K.c6, .bool K.dirty], .int .i64 1, .agg #[.int .i64 a, .int .i64 a, .int .i64 0]] W (Out W (endK (-2) 0 default (lnG a t a a 0) false, 0)) := fun C hcf W f hC => by
            have hok := okG (o := -2) (gr := a) (pa := a) (told := t) (pd := 0) (since := 0) (by decide) (by have := HA.out; omega) (by have := HJ.out; omega) (by have := HA.out; omega) (by decide) (by decide)
            have := hear_any hC (endK_ok (HB.out.own.fr f fun _ _ => id) HK.out hok) 1 ⟨a, a, 0⟩
            rw [hcf, HK.out, end_hear hok (tm_ok (by have := HA.out; show 0 ≤ a; omega) (by have := HA.out; show a ≤ _; omega)) (tm_ok (by have := HA.out; show 0 ≤ a; omega) (by have := HA.out; show a ≤ _; omega)) rfl] at this
            exact this
          have HS : Hid (∀ W, Fr (fun q => q = kb) wr W → (fun Wx => True) W) := Lib.hid fun _ _ => trivial
          have HG := Lib.hid (Fr.refl (fun _ => False) wr).drew
          refine wp_region_held_drew (S := (fun Wx => True)) (by kernel_rfl) (HS.out _ (Fr.refl _ wr).drew) (fun hHeld => ?_)
          generalize wr.drew = wdr at *
          refine wpAnyH_take (i := 2) (oi := { dst := some 101, op := _, type := _, pos := _, after := _, guard := _ }) (v := ?_) rfl (by kernel_rfl) (by kernel_rfl) (by kernel_rfl) (fun _ _ _ h => h) (Or.inl ⟨by rfl, ?_⟩) (by assumption) ?_
          rotate_left
          · intro Wx hSw
            try dsimp only at hSw
            go_simp
            try with_reducible rfl
          try simp only [Act.put, List.setIfInBounds_toArray, List.set_cons_zero, List.set_cons_succ]
          refine wpAnyH_take (i := 3) (oi := { dst := some 102, op := _, type := _, pos := _, after := _, guard := _ }) (v := ?_) rfl (by kernel_rfl) (by kernel_rfl) (by kernel_rfl) (fun _ _ _ h => h) (Or.inl ⟨by rfl, ?_⟩) (by assumption) ?_
          rotate_left
          · intro Wx hSw
            try dsimp only at hSw
            go_simp
            try with_reducible rfl
          try simp only [Act.put, List.setIfInBounds_toArray, List.set_cons_zero, List.set_cons_succ]
          refine wpAnyH_take (i := 4) (oi := { dst := some 103, op := _, type := _, pos := _, after := _, guard := _ }) (v := ?_) rfl (by kernel_rfl) (by kernel_rfl) (by kernel_rfl) (fun _ _ _ h => h) (Or.inl ⟨by rfl, ?_⟩) (by assumption) ?_
          rotate_left
          · intro Wx hSw
            try dsimp only at hSw
            go_simp
            try with_reducible rfl
          try simp only [Act.put, List.setIfInBounds_toArray, List.set_cons_zero, List.set_cons_succ]
          refine wpAnyH_ready (rs := [0, 1]) (by kernel_rfl) (by simp) (AllReadyH.cons rfl (fun KK hKK => ?_) (AllReadyH.cons rfl (fun KK hKK => ?_) (AllReadyH.nil)))
          · go_simp
            have HGP := HG
            refine (end15_any _).mono ?_
            rintro _ v0 ⟨C, rfl, hcf, -, hC, fa⟩
            have HG := Lib.hid (fr_nil HG.out fa)
            have HF0 := Lib.hid (Fr.refl (fun _ => False) v0)
            have HCF := Lib.hid hcf
            have HC := Lib.hid hC
            clear hcf hC
            unfold Cm.val Cm.arr
            clear fa
            (with_reducible refine hKK.out _ _ (HS.out _ (HG.out.mono fun _ _ h => h.elim)) (fun hHeld => ?_))
            clear hKK KK
            refine wpAnyH_ready (rs := [1]) (by kernel_rfl) (by simp) (AllReadyH.cons rfl (fun KK hKK => ?_) (AllReadyH.nil))
            obtain ⟨k0, k1, k2, k3, k4, k5, k6⟩ := Bk.core7 (K := K) (HB.out.is.fr HG.out id)
            go_simp
            (with_reducible refine hKK.out _ _ (HS.out _ (HG.out.mono fun _ _ h => h.elim)) (fun hHeld => ?_))
            clear hKK KK
            clear k0 k1 k2 k3 k4 k5 k6
            refine wpAnyH_ready (rs := [5]) (by kernel_rfl) (by simp) (AllReadyH.cons rfl (fun KK hKK => ?_) (AllReadyH.nil))
            go_simp
            have HGP := HG
            refine (KH C HCF.out _ HG.out (HC.out.fr HF0.out)).mono ?_
            rintro _ v1 ⟨K2, rfl, hk2, ho2, fa⟩
            have HG := Lib.hid (fr_nil HG.out fa)
            have HF0 := Lib.hid (fr_nil HF0.out fa)
            have HF1 := Lib.hid (Fr.refl (fun _ => False) v1)
            have HK2 := Lib.hid hk2
            have HO := Lib.hid (ho2.base HGP.out.size)
            clear hk2 ho2
            unfold Km.val Km.arr
            clear fa
            (with_reducible refine hKK.out _ _ (HS.out _ (HG.out.mono fun _ _ h => h.elim)) (fun hHeld => ?_))
            clear hKK KK
            refine wpAnyH_take (i := 6) (oi := { dst := some 98, op := _, type := _, pos := _, after := _, guard := _ }) (v := ?_) rfl (by kernel_rfl) (by kernel_rfl) (by kernel_rfl) (fun _ _ _ h => h) (Or.inl ⟨by rfl, ?_⟩) (by assumption) ?_
            rotate_left
            · intro Wx hSw
              try dsimp only at hSw
              go_simp
              try with_reducible rfl
            try simp only [Act.put, List.setIfInBounds_toArray, List.set_cons_zero, List.set_cons_succ]
            refine wpAnyH_take (i := 7) (oi := { dst := some 105, op := _, type := _, pos := _, after := _, guard := _ }) (v := ?_) rfl (by kernel_rfl) (by kernel_rfl) (by kernel_rfl) (fun _ _ _ h => h) (Or.inl ⟨by rfl, ?_⟩) (by assumption) ?_
            rotate_left
            · intro Wx hSw
              try dsimp only at hSw
              go_simp
              try with_reducible rfl
            try simp only [Act.put, List.setIfInBounds_toArray, List.set_cons_zero, List.set_cons_succ]
            refine wpAnyH_take (i := 8) (oi := { dst := some 106, op := _, type := _, pos := _, after := _, guard := _ }) (v := ?_) rfl (by kernel_rfl) (by kernel_rfl) (by kernel_rfl) (fun _ _ _ h => h) (Or.inl ⟨by rfl, ?_⟩) (by assumption) ?_
            rotate_left
            · intro Wx hSw
              try dsimp only at hSw
              go_simp
              try with_reducible rfl
            try simp only [Act.put, List.setIfInBounds_toArray, List.set_cons_zero, List.set_cons_succ]
            refine wpAnyH_ready (rs := [9]) (by kernel_rfl) (by simp) (AllReadyH.cons rfl (fun KK hKK => ?_) (AllReadyH.nil))
            have isr := HB.out.is.fr HG.out id
            unfold Km.arr at isr
            obtain ⟨m0, m1, m2, m3, m4, m5, m6⟩ := seven isr
            have z0 := isr.frozen 0
            have z1 := isr.frozen 1
            have z2 := isr.frozen 2
            have z3 := isr.frozen 3
            have z4 := isr.frozen 4
            have z5 := isr.frozen 5
            have z6 := isr.frozen 6
            go_simp
            have HOn := Lib.hid ((HO.out.fr HF1.out fun _ _ => id).base HB.out.f.size)
            have isR := (((((((isr.set 0 (.slice K2.A1 K2.own.length K2.c1)).set 1 (.slice K2.A2 K2.rts.length K2.c2)).set 2 (.slice K2.A3 K2.pts.length K2.c3)).set 3 (.slice K2.A4 K2.crs.length K2.c4)).set 4 (.slice K2.A5 K2.lns.length K2.c5)).set 5 (.slice K2.A6 K2.rss.length K2.c6)).set 6 (.bool K2.dirty))
            have fR := ((((((((Fr.refl (fun q => q = kb) (v1)).setCell (p := ⟨kb, 0, none⟩) (.inl rfl) (.slice K2.A1 K2.own.length K2.c1)).setCell (p := ⟨kb, 1, none⟩) (.inl rfl) (.slice K2.A2 K2.rts.length K2.c2)).setCell (p := ⟨kb, 2, none⟩) (.inl rfl) (.slice K2.A3 K2.pts.length K2.c3)).setCell (p := ⟨kb, 3, none⟩) (.inl rfl) (.slice K2.A4 K2.crs.length K2.c4)).setCell (p := ⟨kb, 4, none⟩) (.inl rfl) (.slice K2.A5 K2.lns.length K2.c5)).setCell (p := ⟨kb, 5, none⟩) (.inl rfl) (.slice K2.A6 K2.rss.length K2.c6)).setCell (p := ⟨kb, 6, none⟩) (.inl rfl) (.bool K2.dirty))
            simp only [List.setIfInBounds_toArray, List.set_cons_zero, List.set_cons_succ] at isR
            have HBN : Hid (Bx w3 ((((((((v1).setCell ⟨kb, 0, none⟩ (.slice K2.A1 K2.own.length K2.c1)).setCell ⟨kb, 1, none⟩ (.slice K2.A2 K2.rts.length K2.c2)).setCell ⟨kb, 2, none⟩ (.slice K2.A3 K2.pts.length K2.c3)).setCell ⟨kb, 3, none⟩ (.slice K2.A4 K2.crs.length K2.c4)).setCell ⟨kb, 4, none⟩ (.slice K2.A5 K2.lns.length K2.c5)).setCell ⟨kb, 5, none⟩ (.slice K2.A6 K2.rss.length K2.c6)).setCell ⟨kb, 6, none⟩ (.bool K2.dirty)) kb K2) := Lib.hid ⟨isR, HOn.out.fr fR fun k hk e => HOn.out.ne_is isr (by decide) (by decide) (by decide) (by decide) (e ▸ hk), ((((((((fr_nil HB.out.f HG.out).setCell (p := ⟨kb, 0, none⟩) (.inr HB.out.hb) (.slice K2.A1 K2.own.length K2.c1)).setCell (p := ⟨kb, 1, none⟩) (.inr HB.out.hb) (.slice K2.A2 K2.rts.length K2.c2)).setCell (p := ⟨kb, 2, none⟩) (.inr HB.out.hb) (.slice K2.A3 K2.pts.length K2.c3)).setCell (p := ⟨kb, 3, none⟩) (.inr HB.out.hb) (.slice K2.A4 K2.crs.length K2.c4)).setCell (p := ⟨kb, 4, none⟩) (.inr HB.out.hb) (.slice K2.A5 K2.lns.length K2.c5)).setCell (p := ⟨kb, 5, none⟩) (.inr HB.out.hb) (.slice K2.A6 K2.rss.length K2.c6)).setCell (p := ⟨kb, 6, none⟩) (.inr HB.out.hb) (.bool K2.dirty)), HB.out.hb⟩
            have HFK := Lib.hid ((HG.out.mono (S' := fun q => q = kb) fun _ _ h => h.elim).trans fR fun _ _ h => h)
            clear isR fR isr
            (with_reducible refine hKK.out _ _ (HS.out _ HFK.out) (fun hHeld => ?_))
            clear hKK KK
            clear m0 m1 m2 m3 m4 m5 m6 z0 z1 z2 z3 z4 z5 z6
            refine wpAnyH_take (i := 10) (oi := { dst := some 6, op := _, type := _, pos := _, after := _, guard := _ }) (v := ?_) rfl (by kernel_rfl) (by kernel_rfl) (by kernel_rfl) (fun _ _ _ h => h) (Or.inl ⟨by rfl, ?_⟩) (by assumption) ?_
            rotate_left
            · intro Wx hSw
              try dsimp only at hSw
              go_simp
              try with_reducible rfl
            try simp only [Act.put, List.setIfInBounds_toArray, List.set_cons_zero, List.set_cons_succ]
            refine wpAnyH_done (by kernel_rfl) ?_ _
            go_wp2_with fail
            go_meet
            case rel => exact ⟨K2, rfl, HK2.out, HBN.out⟩
          · obtain ⟨k0, k1, k2, k3, k4, k5, k6⟩ := Bk.core7 (K := K) (HB.out.is.fr HG.out id)
            go_simp
            (with_reducible refine hKK.out _ _ (HS.out _ (HG.out.mono fun _ _ h => h.elim)) (fun hHeld => ?_))
            clear hKK KK
            clear k0 k1 k2 k3 k4 k5 k6
            refine wpAnyH_ready (rs := [0]) (by kernel_rfl) (by simp) (AllReadyH.cons rfl (fun KK hKK => ?_) (AllReadyH.nil))
            go_simp
            have HGP := HG
            refine (end15_any _).mono ?_
            rintro _ v0 ⟨C, rfl, hcf, -, hC, fa⟩
            have HG := Lib.hid (fr_nil HG.out fa)
            have HF0 := Lib.hid (Fr.refl (fun _ => False) v0)
            have HCF := Lib.hid hcf
            have HC := Lib.hid hC
            clear hcf hC
            unfold Cm.val Cm.arr
            clear fa
            (with_reducible refine hKK.out _ _ (HS.out _ (HG.out.mono fun _ _ h => h.elim)) (fun hHeld => ?_))
            clear hKK KK
            refine wpAnyH_ready (rs := [5]) (by kernel_rfl) (by simp) (AllReadyH.cons rfl (fun KK hKK => ?_) (AllReadyH.nil))
            go_simp
            have HGP := HG
            refine (KH C HCF.out _ HG.out (HC.out.fr HF0.out)).mono ?_
            rintro _ v1 ⟨K2, rfl, hk2, ho2, fa⟩
            have HG := Lib.hid (fr_nil HG.out fa)
            have HF0 := Lib.hid (fr_nil HF0.out fa)
            have HF1 := Lib.hid (Fr.refl (fun _ => False) v1)
            have HK2 := Lib.hid hk2
            have HO := Lib.hid (ho2.base HGP.out.size)
            clear hk2 ho2
            unfold Km.val Km.arr
            clear fa
            (with_reducible refine hKK.out _ _ (HS.out _ (HG.out.mono fun _ _ h => h.elim)) (fun hHeld => ?_))
            clear hKK KK
            refine wpAnyH_take (i := 6) (oi := { dst := some 98, op := _, type := _, pos := _, after := _, guard := _ }) (v := ?_) rfl (by kernel_rfl) (by kernel_rfl) (by kernel_rfl) (fun _ _ _ h => h) (Or.inl ⟨by rfl, ?_⟩) (by assumption) ?_
            rotate_left
            · intro Wx hSw
              try dsimp only at hSw
              go_simp
              try with_reducible rfl
            try simp only [Act.put, List.setIfInBounds_toArray, List.set_cons_zero, List.set_cons_succ]
            refine wpAnyH_take (i := 7) (oi := { dst := some 105, op := _, type := _, pos := _, after := _, guard := _ }) (v := ?_) rfl (by kernel_rfl) (by kernel_rfl) (by kernel_rfl) (fun _ _ _ h => h) (Or.inl ⟨by rfl, ?_⟩) (by assumption) ?_
            rotate_left
            · intro Wx hSw
              try dsimp only at hSw
              go_simp
              try with_reducible rfl
            try simp only [Act.put, List.setIfInBounds_toArray, List.set_cons_zero, List.set_cons_succ]
            refine wpAnyH_take (i := 8) (oi := { dst := some 106, op := _, type := _, pos := _, after := _, guard := _ }) (v := ?_) rfl (by kernel_rfl) (by kernel_rfl) (by kernel_rfl) (fun _ _ _ h => h) (Or.inl ⟨by rfl, ?_⟩) (by assumption) ?_
            rotate_left
            · intro Wx hSw
              try dsimp only at hSw
              go_simp
              try with_reducible rfl
            try simp only [Act.put, List.setIfInBounds_toArray, List.set_cons_zero, List.set_cons_succ]
            refine wpAnyH_ready (rs := [9]) (by kernel_rfl) (by simp) (AllReadyH.cons rfl (fun KK hKK => ?_) (AllReadyH.nil))
            have isr := HB.out.is.fr HG.out id
            unfold Km.arr at isr
            obtain ⟨m0, m1, m2, m3, m4, m5, m6⟩ := seven isr
            have z0 := isr.frozen 0
            have z1 := isr.frozen 1
            have z2 := isr.frozen 2
            have z3 := isr.frozen 3
            have z4 := isr.frozen 4
            have z5 := isr.frozen 5
            have z6 := isr.frozen 6
            go_simp
            have HOn := Lib.hid ((HO.out.fr HF1.out fun _ _ => id).base HB.out.f.size)
            have isR := (((((((isr.set 0 (.slice K2.A1 K2.own.length K2.c1)).set 1 (.slice K2.A2 K2.rts.length K2.c2)).set 2 (.slice K2.A3 K2.pts.length K2.c3)).set 3 (.slice K2.A4 K2.crs.length K2.c4)).set 4 (.slice K2.A5 K2.lns.length K2.c5)).set 5 (.slice K2.A6 K2.rss.length K2.c6)).set 6 (.bool K2.dirty))
            have fR := ((((((((Fr.refl (fun q => q = kb) (v1)).setCell (p := ⟨kb, 0, none⟩) (.inl rfl) (.slice K2.A1 K2.own.length K2.c1)).setCell (p := ⟨kb, 1, none⟩) (.inl rfl) (.slice K2.A2 K2.rts.length K2.c2)).setCell (p := ⟨kb, 2, none⟩) (.inl rfl) (.slice K2.A3 K2.pts.length K2.c3)).setCell (p := ⟨kb, 3, none⟩) (.inl rfl) (.slice K2.A4 K2.crs.length K2.c4)).setCell (p := ⟨kb, 4, none⟩) (.inl rfl) (.slice K2.A5 K2.lns.length K2.c5)).setCell (p := ⟨kb, 5, none⟩) (.inl rfl) (.slice K2.A6 K2.rss.length K2.c6)).setCell (p := ⟨kb, 6, none⟩) (.inl rfl) (.bool K2.dirty))
            simp only [List.setIfInBounds_toArray, List.set_cons_zero, List.set_cons_succ] at isR
            have HBN : Hid (Bx w3 ((((((((v1).setCell ⟨kb, 0, none⟩ (.slice K2.A1 K2.own.length K2.c1)).setCell ⟨kb, 1, none⟩ (.slice K2.A2 K2.rts.length K2.c2)).setCell ⟨kb, 2, none⟩ (.slice K2.A3 K2.pts.length K2.c3)).setCell ⟨kb, 3, none⟩ (.slice K2.A4 K2.crs.length K2.c4)).setCell ⟨kb, 4, none⟩ (.slice K2.A5 K2.lns.length K2.c5)).setCell ⟨kb, 5, none⟩ (.slice K2.A6 K2.rss.length K2.c6)).setCell ⟨kb, 6, none⟩ (.bool K2.dirty)) kb K2) := Lib.hid ⟨isR, HOn.out.fr fR fun k hk e => HOn.out.ne_is isr (by decide) (by decide) (by decide) (by decide) (e ▸ hk), ((((((((fr_nil HB.out.f HG.out).setCell (p := ⟨kb, 0, none⟩) (.inr HB.out.hb) (.slice K2.A1 K2.own.length K2.c1)).setCell (p := ⟨kb, 1, none⟩) (.inr HB.out.hb) (.slice K2.A2 K2.rts.length K2.c2)).setCell (p := ⟨kb, 2, none⟩) (.inr HB.out.hb) (.slice K2.A3 K2.pts.length K2.c3)).setCell (p := ⟨kb, 3, none⟩) (.inr HB.out.hb) (.slice K2.A4 K2.crs.length K2.c4)).setCell (p := ⟨kb, 4, none⟩) (.inr HB.out.hb) (.slice K2.A5 K2.lns.length K2.c5)).setCell (p := ⟨kb, 5, none⟩) (.inr HB.out.hb) (.slice K2.A6 K2.rss.length K2.c6)).setCell (p := ⟨kb, 6, none⟩) (.inr HB.out.hb) (.bool K2.dirty)), HB.out.hb⟩
            have HFK := Lib.hid ((HG.out.mono (S' := fun q => q = kb) fun _ _ h => h.elim).trans fR fun _ _ h => h)
            clear isR fR isr
            (with_reducible refine hKK.out _ _ (HS.out _ HFK.out) (fun hHeld => ?_))
            clear hKK KK
            clear m0 m1 m2 m3 m4 m5 m6 z0 z1 z2 z3 z4 z5 z6
            refine wpAnyH_take (i := 10) (oi := { dst := some 6, op := _, type := _, pos := _, after := _, guard := _ }) (v := ?_) rfl (by kernel_rfl) (by kernel_rfl) (by kernel_rfl) (fun _ _ _ h => h) (Or.inl ⟨by rfl, ?_⟩) (by assumption) ?_
            rotate_left
            · intro Wx hSw
              try dsimp only at hSw
              go_simp
              try with_reducible rfl
            try simp only [Act.put, List.setIfInBounds_toArray, List.set_cons_zero, List.set_cons_succ]
            refine wpAnyH_done (by kernel_rfl) ?_ _
            go_wp2_with fail
            go_meet
            case rel => exact ⟨K2, rfl, HK2.out, HBN.out⟩
        case rest =>
          obtain ⟨K9, rfl, hk, hb⟩ := hcut
          clear HB HK
          have HB := Lib.hid hb
          have HK := Lib.hid hk
          clear hk hb
          generalize K9 = K at *
          obtain ⟨g1, o1, g5, o5, c0, d0, c1, c2, c3, c4, c5, c6, -⟩ := look_at HB.out HK.out
          go_upto_region 21 with fail
          clear c0 c1 c2 c3 c4 c5 c6 d0
          have HNW : Hid (nw = (j : Int) + 1 ∧ 0 ≤ t ∧ t ≤ 1000 ∧ (j : Int) ≤ 20) := Lib.hid (by have := HJ.out; have := HW1.out; omega)
          clear HJ HW1
          go_wp2_with fail
          go_loopg [7, 8, 10] 3 (fun gi v7 v8 v10 wr => ∃ (i : Nat) (t s n2 : Int) (K : Km), i ≤ 3 ∧ gi = 3 - i ∧ v7 = .int .i64 0 ∧ v8 = .int .i64 n2 ∧ v10 = .int .i64 (i : Nat) ∧ n2 = nw + i ∧ 0 ≤ t ∧ t ≤ 1000 ∧ s = (if i = 0 then 0 else nw + 2) ∧ K.kp = endK (-2) 0 default (lnG a t a a s) false ∧ Bx w3 wr kb K)
          case atStart => exact ⟨0, t, 0, nw, K, by decide, rfl, rfl, rfl, rfl, by simp, HNW.out.2.1, HNW.out.2.2.1, rfl, HK.out, HB.out⟩
          case round =>
            clear HB HK
            obtain ⟨i, t2, s, n2, K7, hi, rfl, rfl, rfl, rfl, hn2, ht0, ht1, hs, hk, hb⟩ := hrel
            generalize K7 = K at *
            have HB := Lib.hid hb
            have HK := Lib.hid hk
            have HT2 := Lib.hid (And.intro hn2 (And.intro ht0 ht1))
            have HSS := Lib.hid hs
            clear hk hb hn2 ht0 ht1 hs
            by_cases hlt : i < 3
            · have HLT := Lib.hid hlt
              obtain ⟨n1, hn1⟩ : ∃ n1 : Int, n1 = n2 + 1 := ⟨_, rfl⟩
              have h8 : wrap64 (n2 + 1) = n1 := by rw [IntWalk.wrap64_in _ ⟨by have := HT2.out; have := HNW.out; omega, by have := HT2.out; have := HNW.out; omega⟩]; exact hn1.symm
              have HN1 : Hid (n1 = nw + i + 1 ∧ 0 ≤ n1 ∧ n1 ≤ 100) := Lib.hid (by have := HT2.out; have := HNW.out; omega)
              have i1 : (0 : Int) ≤ (i : Int) := by omega
              have i2 : (i : Int) < 3 := by omega
              have HS2 : Hid (0 ≤ s ∧ s ≤ 100) := Lib.hid (by have h1 := HNW.out; have h2 := HSS.out; split at h2 <;> omega)
              clear hlt hi hn1
              go_upto_region 25 with fail
              simp only [h8]
              clear h8 i1 i2
              go_cut [7] from 122 to 131 (fun v7 wx => ∃ K2 : Km, v7 = .int .i64 0 ∧ K2.kp = endK (-2) 0 default (lnG a a a a (nw + 2)) false ∧ Bx w3 wx kb K2)
              case first =>
                have hst : stepK n1 1 n1 (-2) 0 default (lnG a t2 a a s) false = endK (-2) 0 default (lnG a a a a (nw + 2)) false := by
                  have h := HSS.out
                  by_cases h0 : i = 0
                  · rw [if_pos h0] at h
                    rw [h, sC]
                    have := HN1.out.1
                    congr 2
                    omega
                  · rw [if_neg h0] at h
                    rw [sD (by have := HNW.out; omega), h]
                have KT : ∀ (C : Cm) (V : Vm) (oc : Int), oc = 1 → C.cf = endF → V.vp = seenV oc n1 → ∀ W, Fr (fun _ => False) wr W → C.Ok W → V.Ok W → Calls Try.prog 7 #[.agg #[.slice C.A1 C.l.length C.c1, .slice C.A2 C.js.length C.c2, .slice C.A3 C.sg.length C.c3, .slice C.A4 C.cr.length C.c4, .slice C.A5 C.rs.length C.c5, .int .i64 C.tm.age, .int .i64 C.tm.brake, .int .i64 C.tm.hold, .int .i64 C.tm.budget], .agg #[.slice K.A1 K.own.length K.c1, .slice K.A2 K.rts.length K.c2, .slice K.A3 K.pts.length K.c3, .slice K.A4 K.crs.length K.c4, .slice K.A5 K.lns.length K.c5, .slice K.A6 K.rss.length K.c6, .bool K.dirty], .agg #[.slice V.A1 V.occ.length V.c1, .slice V.A2 V.pos.length V.c2, .slice V.A3 V.shut.length V.c3, .slice V.A4 V.lamp.length V.c4], .int .i64 n1] W (Out W (endK (-2) 0 default (lnG a a a a (nw + 2)) false, 0)) := fun C V oc hoc hcf hv W f hC hV => by
                  subst hoc
                  have := bstep_any hC (endK_ok (HB.out.own.fr f fun _ _ => id) HK.out (okG (by decide) (by have := HA.out; omega) (by have := HT2.out; omega) (by have := HA.out; omega) (by have := HA.out; omega) (by have := HS2.out; omega))) hV n1
                  rw [hv, hcf, HK.out, end_step (okG (by decide) (by have := HA.out; omega) (by have := HT2.out; omega) (by have := HA.out; omega) (by have := HA.out; omega) (by have := HS2.out; omega)) (tm_ok (by have := HN1.out; omega) (by have := HN1.out; omega)), hst] at this
                  exact this
                have HS : Hid (∀ W, Fr (fun q => q = kb) wr W → (fun Wx => True) W) := Lib.hid fun _ _ => trivial
                have HG := Lib.hid (Fr.refl (fun _ => False) wr).drew
                refine wp_region_held_drew (S := (fun Wx => True)) (by kernel_rfl) (HS.out _ (Fr.refl _ wr).drew) (fun hHeld => ?_)
                generalize wr.drew = wdr at *
                refine wpAnyH_take (i := 2) (oi := { dst := some 125, op := _, type := _, pos := _, after := _, guard := _ }) (v := ?_) rfl (by kernel_rfl) (by kernel_rfl) (by kernel_rfl) (fun _ _ _ h => h) (Or.inl ⟨by rfl, ?_⟩) (by assumption) ?_
                rotate_left
                · intro Wx hSw
                  try dsimp only at hSw
                  go_simp
                  try with_reducible rfl
                try simp only [Act.put, List.setIfInBounds_toArray, List.set_cons_zero, List.set_cons_succ]
                refine wpAnyH_take (i := 4) (oi := { dst := some 127, op := _, type := _, pos := _, after := _, guard := _ }) (v := ?_) rfl (by kernel_rfl) (by kernel_rfl) (by kernel_rfl) (fun _ _ _ h => h) (Or.inl ⟨by rfl, ?_⟩) (by assumption) ?_
                rotate_left
                · intro Wx hSw
                  try dsimp only at hSw
                  go_simp
                  try with_reducible rfl
                try simp only [Act.put, List.setIfInBounds_toArray, List.set_cons_zero, List.set_cons_succ]
                refine wpAnyH_ready (rs := [0, 1]) (by kernel_rfl) (by simp) (AllReadyH.cons rfl (fun KK hKK => ?_) (AllReadyH.cons rfl (fun KK hKK => ?_) (AllReadyH.nil)))
                · go_simp
                  have HGP := HG
                  refine (end15_any _).mono ?_
                  rintro _ v0 ⟨C, rfl, hcf, -, hC, fa⟩
                  have HG := Lib.hid (fr_nil HG.out fa)
                  have HF0 := Lib.hid (Fr.refl (fun _ => False) v0)
                  have HCF := Lib.hid hcf
                  have HC := Lib.hid hC
                  clear hcf hC
                  unfold Cm.val Cm.arr
                  clear fa
                  (with_reducible refine hKK.out _ _ (HS.out _ (HG.out.mono fun _ _ h => h.elim)) (fun hHeld => ?_))
                  clear hKK KK
                  refine wpAnyH_ready (rs := [1, 3]) (by kernel_rfl) (by simp) (AllReadyH.cons rfl (fun KK hKK => ?_) (AllReadyH.cons rfl (fun KK hKK => ?_) (AllReadyH.nil)))
                  · obtain ⟨k0, k1, k2, k3, k4, k5, k6⟩ := Bk.core7 (K := K) (HB.out.is.fr HG.out id)
                    go_simp
                    (with_reducible refine hKK.out _ _ (HS.out _ (HG.out.mono fun _ _ h => h.elim)) (fun hHeld => ?_))
                    clear hKK KK
                    clear k0 k1 k2 k3 k4 k5 k6
                    refine wpAnyH_ready (rs := [3]) (by kernel_rfl) (by simp) (AllReadyH.cons rfl (fun KK hKK => ?_) (AllReadyH.nil))
                    go_simp
                    have HGP := HG
                    refine (seen15_any 1 n1 _).mono ?_
                    rintro _ v1 ⟨V, rfl, hv, hvo, fa⟩
                    have HG := Lib.hid (fr_nil HG.out fa)
                    have HF0 := Lib.hid (fr_nil HF0.out fa)
                    have HF1 := Lib.hid (Fr.refl (fun _ => False) v1)
                    have HVP := Lib.hid hv
                    have HVO := Lib.hid hvo
                    clear hv hvo
                    unfold Vm.val Vm.arr
                    clear fa
                    (with_reducible refine hKK.out _ _ (HS.out _ (HG.out.mono fun _ _ h => h.elim)) (fun hHeld => ?_))
                    clear hKK KK
                    refine wpAnyH_ready (rs := [5]) (by kernel_rfl) (by simp) (AllReadyH.cons rfl (fun KK hKK => ?_) (AllReadyH.nil))
                    go_simp
                    have HGP := HG
                    refine (KT C V _ rfl HCF.out HVP.out _ HG.out (HC.out.fr HF0.out) (HVO.out.fr HF1.out)).mono ?_
                    rintro _ v2 ⟨K2, rfl, hk2, ho2, fa⟩
                    have HG := Lib.hid (fr_nil HG.out fa)
                    have HF0 := Lib.hid (fr_nil HF0.out fa)
                    have HF1 := Lib.hid (fr_nil HF1.out fa)
                    have HF2 := Lib.hid (Fr.refl (fun _ => False) v2)
                    have HK2 := Lib.hid hk2
                    have HO := Lib.hid (ho2.base HGP.out.size)
                    clear hk2 ho2
                    unfold Km.val Km.arr
                    clear fa
                    (with_reducible refine hKK.out _ _ (HS.out _ (HG.out.mono fun _ _ h => h.elim)) (fun hHeld => ?_))
                    clear hKK KK
                    refine wpAnyH_take (i := 6) (oi := { dst := some 122, op := _, type := _, pos := _, after := _, guard := _ }) (v := ?_) rfl (by kernel_rfl) (by kernel_rfl) (by kernel_rfl) (fun _ _ _ h => h) (Or.inl ⟨by rfl, ?_⟩) (by assumption) ?_
                    rotate_left
                    · intro Wx hSw
                      try dsimp only at hSw
                      go_simp
                      try with_reducible rfl
                    try simp only [Act.put, List.setIfInBounds_toArray, List.set_cons_zero, List.set_cons_succ]
                    refine wpAnyH_take (i := 7) (oi := { dst := some 129, op := _, type := _, pos := _, after := _, guard := _ }) (v := ?_) rfl (by kernel_rfl) (by kernel_rfl) (by kernel_rfl) (fun _ _ _ h => h) (Or.inl ⟨by rfl, ?_⟩) (by assumption) ?_
                    rotate_left
                    · intro Wx hSw
                      try dsimp only at hSw
                      go_simp
                      try with_reducible rfl
                    try simp only [Act.put, List.setIfInBounds_toArray, List.set_cons_zero, List.set_cons_succ]
                    refine wpAnyH_take (i := 8) (oi := { dst := some 130, op := _, type := _, pos := _, after := _, guard := _ }) (v := ?_) rfl (by kernel_rfl) (by kernel_rfl) (by kernel_rfl) (fun _ _ _ h => h) (Or.inl ⟨by rfl, ?_⟩) (by assumption) ?_
                    rotate_left
                    · intro Wx hSw
                      try dsimp only at hSw
                      go_simp
                      try with_reducible rfl
                    try simp only [Act.put, List.setIfInBounds_toArray, List.set_cons_zero, List.set_cons_succ]
                    refine wpAnyH_ready (rs := [9]) (by kernel_rfl) (by simp) (AllReadyH.cons rfl (fun KK hKK => ?_) (AllReadyH.nil))
                    have isr := HB.out.is.fr HG.out id
                    unfold Km.arr at isr
                    obtain ⟨m0, m1, m2, m3, m4, m5, m6⟩ := seven isr
                    have z0 := isr.frozen 0
                    have z1 := isr.frozen 1
                    have z2 := isr.frozen 2
                    have z3 := isr.frozen 3
                    have z4 := isr.frozen 4
                    have z5 := isr.frozen 5
                    have z6 := isr.frozen 6
                    go_simp
                    have HOn := Lib.hid ((HO.out.fr HF2.out fun _ _ => id).base HB.out.f.size)
                    have isR := (((((((isr.set 0 (.slice K2.A1 K2.own.length K2.c1)).set 1 (.slice K2.A2 K2.rts.length K2.c2)).set 2 (.slice K2.A3 K2.pts.length K2.c3)).set 3 (.slice K2.A4 K2.crs.length K2.c4)).set 4 (.slice K2.A5 K2.lns.length K2.c5)).set 5 (.slice K2.A6 K2.rss.length K2.c6)).set 6 (.bool K2.dirty))
                    have fR := ((((((((Fr.refl (fun q => q = kb) (v2)).setCell (p := ⟨kb, 0, none⟩) (.inl rfl) (.slice K2.A1 K2.own.length K2.c1)).setCell (p := ⟨kb, 1, none⟩) (.inl rfl) (.slice K2.A2 K2.rts.length K2.c2)).setCell (p := ⟨kb, 2, none⟩) (.inl rfl) (.slice K2.A3 K2.pts.length K2.c3)).setCell (p := ⟨kb, 3, none⟩) (.inl rfl) (.slice K2.A4 K2.crs.length K2.c4)).setCell (p := ⟨kb, 4, none⟩) (.inl rfl) (.slice K2.A5 K2.lns.length K2.c5)).setCell (p := ⟨kb, 5, none⟩) (.inl rfl) (.slice K2.A6 K2.rss.length K2.c6)).setCell (p := ⟨kb, 6, none⟩) (.inl rfl) (.bool K2.dirty))
                    simp only [List.setIfInBounds_toArray, List.set_cons_zero, List.set_cons_succ] at isR
                    have HBN : Hid (Bx w3 ((((((((v2).setCell ⟨kb, 0, none⟩ (.slice K2.A1 K2.own.length K2.c1)).setCell ⟨kb, 1, none⟩ (.slice K2.A2 K2.rts.length K2.c2)).setCell ⟨kb, 2, none⟩ (.slice K2.A3 K2.pts.length K2.c3)).setCell ⟨kb, 3, none⟩ (.slice K2.A4 K2.crs.length K2.c4)).setCell ⟨kb, 4, none⟩ (.slice K2.A5 K2.lns.length K2.c5)).setCell ⟨kb, 5, none⟩ (.slice K2.A6 K2.rss.length K2.c6)).setCell ⟨kb, 6, none⟩ (.bool K2.dirty)) kb K2) := Lib.hid ⟨isR, HOn.out.fr fR fun k hk e => HOn.out.ne_is isr (by decide) (by decide) (by decide) (by decide) (e ▸ hk), ((((((((fr_nil HB.out.f HG.out).setCell (p := ⟨kb, 0, none⟩) (.inr HB.out.hb) (.slice K2.A1 K2.own.length K2.c1)).setCell (p := ⟨kb, 1, none⟩) (.inr HB.out.hb) (.slice K2.A2 K2.rts.length K2.c2)).setCell (p := ⟨kb, 2, none⟩) (.inr HB.out.hb) (.slice K2.A3 K2.pts.length K2.c3)).setCell (p := ⟨kb, 3, none⟩) (.inr HB.out.hb) (.slice K2.A4 K2.crs.length K2.c4)).setCell (p := ⟨kb, 4, none⟩) (.inr HB.out.hb) (.slice K2.A5 K2.lns.length K2.c5)).setCell (p := ⟨kb, 5, none⟩) (.inr HB.out.hb) (.slice K2.A6 K2.rss.length K2.c6)).setCell (p := ⟨kb, 6, none⟩) (.inr HB.out.hb) (.bool K2.dirty)), HB.out.hb⟩
                    have HFK := Lib.hid ((HG.out.mono (S' := fun q => q = kb) fun _ _ h => h.elim).trans fR fun _ _ h => h)
                    clear isR fR isr
                    (with_reducible refine hKK.out _ _ (HS.out _ HFK.out) (fun hHeld => ?_))
                    clear hKK KK
                    clear m0 m1 m2 m3 m4 m5 m6 z0 z1 z2 z3 z4 z5 z6
                    refine wpAnyH_take (i := 10) (oi := { dst := some 7, op := _, type := _, pos := _, after := _, guard := _ }) (v := ?_) rfl (by kernel_rfl) (by kernel_rfl) (by kernel_rfl) (fun _ _ _ h => h) (Or.inl ⟨by rfl, ?_⟩) (by assumption) ?_
                    rotate_left
                    · intro Wx hSw
                      try dsimp only at hSw
                      go_simp
                      try with_reducible rfl
                    try simp only [Act.put, List.setIfInBounds_toArray, List.set_cons_zero, List.set_cons_succ]
                    refine wpAnyH_done (by kernel_rfl) ?_ _
                    go_wp2_with fail
                    go_meet
                    case rel => exact ⟨K2, rfl, HK2.out, HBN.out⟩
                  · go_simp
                    have HGP := HG
                    refine (seen15_any 1 n1 _).mono ?_
                    rintro _ v1 ⟨V, rfl, hv, hvo, fa⟩
                    have HG := Lib.hid (fr_nil HG.out fa)
                    have HF0 := Lib.hid (fr_nil HF0.out fa)
                    have HF1 := Lib.hid (Fr.refl (fun _ => False) v1)
                    have HVP := Lib.hid hv
                    have HVO := Lib.hid hvo
                    clear hv hvo
                    unfold Vm.val Vm.arr
                    clear fa
                    (with_reducible refine hKK.out _ _ (HS.out _ (HG.out.mono fun _ _ h => h.elim)) (fun hHeld => ?_))
                    clear hKK KK
                    refine wpAnyH_ready (rs := [1]) (by kernel_rfl) (by simp) (AllReadyH.cons rfl (fun KK hKK => ?_) (AllReadyH.nil))
                    obtain ⟨k0, k1, k2, k3, k4, k5, k6⟩ := Bk.core7 (K := K) (HB.out.is.fr HG.out id)
                    go_simp
                    (with_reducible refine hKK.out _ _ (HS.out _ (HG.out.mono fun _ _ h => h.elim)) (fun hHeld => ?_))
                    clear hKK KK
                    clear k0 k1 k2 k3 k4 k5 k6
                    refine wpAnyH_ready (rs := [5]) (by kernel_rfl) (by simp) (AllReadyH.cons rfl (fun KK hKK => ?_) (AllReadyH.nil))
                    go_simp
                    have HGP := HG
                    refine (KT C V _ rfl HCF.out HVP.out _ HG.out (HC.out.fr HF0.out) (HVO.out.fr HF1.out)).mono ?_
                    rintro _ v2 ⟨K2, rfl, hk2, ho2, fa⟩
                    have HG := Lib.hid (fr_nil HG.out fa)
                    have HF0 := Lib.hid (fr_nil HF0.out fa)
                    have HF1 := Lib.hid (fr_nil HF1.out fa)
                    have HF2 := Lib.hid (Fr.refl (fun _ => False) v2)
                    have HK2 := Lib.hid hk2
                    have HO := Lib.hid (ho2.base HGP.out.size)
                    clear hk2 ho2
                    unfold Km.val Km.arr
                    clear fa
                    (with_reducible refine hKK.out _ _ (HS.out _ (HG.out.mono fun _ _ h => h.elim)) (fun hHeld => ?_))
                    clear hKK KK
                    refine wpAnyH_take (i := 6) (oi := { dst := some 122, op := _, type := _, pos := _, after := _, guard := _ }) (v := ?_) rfl (by kernel_rfl) (by kernel_rfl) (by kernel_rfl) (fun _ _ _ h => h) (Or.inl ⟨by rfl, ?_⟩) (by assumption) ?_
                    rotate_left
                    · intro Wx hSw
                      try dsimp only at hSw
                      go_simp
                      try with_reducible rfl
                    try simp only [Act.put, List.setIfInBounds_toArray, List.set_cons_zero, List.set_cons_succ]
                    refine wpAnyH_take (i := 7) (oi := { dst := some 129, op := _, type := _, pos := _, after := _, guard := _ }) (v := ?_) rfl (by kernel_rfl) (by kernel_rfl) (by kernel_rfl) (fun _ _ _ h => h) (Or.inl ⟨by rfl, ?_⟩) (by assumption) ?_
                    rotate_left
                    · intro Wx hSw
                      try dsimp only at hSw
                      go_simp
                      try with_reducible rfl
                    try simp only [Act.put, List.setIfInBounds_toArray, List.set_cons_zero, List.set_cons_succ]
                    refine wpAnyH_take (i := 8) (oi := { dst := some 130, op := _, type := _, pos := _, after := _, guard := _ }) (v := ?_) rfl (by kernel_rfl) (by kernel_rfl) (by kernel_rfl) (fun _ _ _ h => h) (Or.inl ⟨by rfl, ?_⟩) (by assumption) ?_
                    rotate_left
                    · intro Wx hSw
                      try dsimp only at hSw
                      go_simp
                      try with_reducible rfl
                    try simp only [Act.put, List.setIfInBounds_toArray, List.set_cons_zero, List.set_cons_succ]
                    refine wpAnyH_ready (rs := [9]) (by kernel_rfl) (by simp) (AllReadyH.cons rfl (fun KK hKK => ?_) (AllReadyH.nil))
                    have isr := HB.out.is.fr HG.out id
                    unfold Km.arr at isr
                    obtain ⟨m0, m1, m2, m3, m4, m5, m6⟩ := seven isr
                    have z0 := isr.frozen 0
                    have z1 := isr.frozen 1
                    have z2 := isr.frozen 2
                    have z3 := isr.frozen 3
                    have z4 := isr.frozen 4
                    have z5 := isr.frozen 5
                    have z6 := isr.frozen 6
                    go_simp
                    have HOn := Lib.hid ((HO.out.fr HF2.out fun _ _ => id).base HB.out.f.size)
                    have isR := (((((((isr.set 0 (.slice K2.A1 K2.own.length K2.c1)).set 1 (.slice K2.A2 K2.rts.length K2.c2)).set 2 (.slice K2.A3 K2.pts.length K2.c3)).set 3 (.slice K2.A4 K2.crs.length K2.c4)).set 4 (.slice K2.A5 K2.lns.length K2.c5)).set 5 (.slice K2.A6 K2.rss.length K2.c6)).set 6 (.bool K2.dirty))
                    have fR := ((((((((Fr.refl (fun q => q = kb) (v2)).setCell (p := ⟨kb, 0, none⟩) (.inl rfl) (.slice K2.A1 K2.own.length K2.c1)).setCell (p := ⟨kb, 1, none⟩) (.inl rfl) (.slice K2.A2 K2.rts.length K2.c2)).setCell (p := ⟨kb, 2, none⟩) (.inl rfl) (.slice K2.A3 K2.pts.length K2.c3)).setCell (p := ⟨kb, 3, none⟩) (.inl rfl) (.slice K2.A4 K2.crs.length K2.c4)).setCell (p := ⟨kb, 4, none⟩) (.inl rfl) (.slice K2.A5 K2.lns.length K2.c5)).setCell (p := ⟨kb, 5, none⟩) (.inl rfl) (.slice K2.A6 K2.rss.length K2.c6)).setCell (p := ⟨kb, 6, none⟩) (.inl rfl) (.bool K2.dirty))
                    simp only [List.setIfInBounds_toArray, List.set_cons_zero, List.set_cons_succ] at isR
                    have HBN : Hid (Bx w3 ((((((((v2).setCell ⟨kb, 0, none⟩ (.slice K2.A1 K2.own.length K2.c1)).setCell ⟨kb, 1, none⟩ (.slice K2.A2 K2.rts.length K2.c2)).setCell ⟨kb, 2, none⟩ (.slice K2.A3 K2.pts.length K2.c3)).setCell ⟨kb, 3, none⟩ (.slice K2.A4 K2.crs.length K2.c4)).setCell ⟨kb, 4, none⟩ (.slice K2.A5 K2.lns.length K2.c5)).setCell ⟨kb, 5, none⟩ (.slice K2.A6 K2.rss.length K2.c6)).setCell ⟨kb, 6, none⟩ (.bool K2.dirty)) kb K2) := Lib.hid ⟨isR, HOn.out.fr fR fun k hk e => HOn.out.ne_is isr (by decide) (by decide) (by decide) (by decide) (e ▸ hk), ((((((((fr_nil HB.out.f HG.out).setCell (p := ⟨kb, 0, none⟩) (.inr HB.out.hb) (.slice K2.A1 K2.own.length K2.c1)).setCell (p := ⟨kb, 1, none⟩) (.inr HB.out.hb) (.slice K2.A2 K2.rts.length K2.c2)).setCell (p := ⟨kb, 2, none⟩) (.inr HB.out.hb) (.slice K2.A3 K2.pts.length K2.c3)).setCell (p := ⟨kb, 3, none⟩) (.inr HB.out.hb) (.slice K2.A4 K2.crs.length K2.c4)).setCell (p := ⟨kb, 4, none⟩) (.inr HB.out.hb) (.slice K2.A5 K2.lns.length K2.c5)).setCell (p := ⟨kb, 5, none⟩) (.inr HB.out.hb) (.slice K2.A6 K2.rss.length K2.c6)).setCell (p := ⟨kb, 6, none⟩) (.inr HB.out.hb) (.bool K2.dirty)), HB.out.hb⟩
                    have HFK := Lib.hid ((HG.out.mono (S' := fun q => q = kb) fun _ _ h => h.elim).trans fR fun _ _ h => h)
                    clear isR fR isr
                    (with_reducible refine hKK.out _ _ (HS.out _ HFK.out) (fun hHeld => ?_))
                    clear hKK KK
                    clear m0 m1 m2 m3 m4 m5 m6 z0 z1 z2 z3 z4 z5 z6
                    refine wpAnyH_take (i := 10) (oi := { dst := some 7, op := _, type := _, pos := _, after := _, guard := _ }) (v := ?_) rfl (by kernel_rfl) (by kernel_rfl) (by kernel_rfl) (fun _ _ _ h => h) (Or.inl ⟨by rfl, ?_⟩) (by assumption) ?_
                    rotate_left
                    · intro Wx hSw
                      try dsimp only at hSw
                      go_simp
                      try with_reducible rfl
                    try simp only [Act.put, List.setIfInBounds_toArray, List.set_cons_zero, List.set_cons_succ]
                    refine wpAnyH_done (by kernel_rfl) ?_ _
                    go_wp2_with fail
                    go_meet
                    case rel => exact ⟨K2, rfl, HK2.out, HBN.out⟩
                · obtain ⟨k0, k1, k2, k3, k4, k5, k6⟩ := Bk.core7 (K := K) (HB.out.is.fr HG.out id)
                  go_simp
                  (with_reducible refine hKK.out _ _ (HS.out _ (HG.out.mono fun _ _ h => h.elim)) (fun hHeld => ?_))
                  clear hKK KK
                  clear k0 k1 k2 k3 k4 k5 k6
                  refine wpAnyH_ready (rs := [0]) (by kernel_rfl) (by simp) (AllReadyH.cons rfl (fun KK hKK => ?_) (AllReadyH.nil))
                  go_simp
                  have HGP := HG
                  refine (end15_any _).mono ?_
                  rintro _ v0 ⟨C, rfl, hcf, -, hC, fa⟩
                  have HG := Lib.hid (fr_nil HG.out fa)
                  have HF0 := Lib.hid (Fr.refl (fun _ => False) v0)
                  have HCF := Lib.hid hcf
                  have HC := Lib.hid hC
                  clear hcf hC
                  unfold Cm.val Cm.arr
                  clear fa
                  (with_reducible refine hKK.out _ _ (HS.out _ (HG.out.mono fun _ _ h => h.elim)) (fun hHeld => ?_))
                  clear hKK KK
                  refine wpAnyH_ready (rs := [3]) (by kernel_rfl) (by simp) (AllReadyH.cons rfl (fun KK hKK => ?_) (AllReadyH.nil))
                  go_simp
                  have HGP := HG
                  refine (seen15_any 1 n1 _).mono ?_
                  rintro _ v1 ⟨V, rfl, hv, hvo, fa⟩
                  have HG := Lib.hid (fr_nil HG.out fa)
                  have HF0 := Lib.hid (fr_nil HF0.out fa)
                  have HF1 := Lib.hid (Fr.refl (fun _ => False) v1)
                  have HVP := Lib.hid hv
                  have HVO := Lib.hid hvo
                  clear hv hvo
                  unfold Vm.val Vm.arr
                  clear fa
                  (with_reducible refine hKK.out _ _ (HS.out _ (HG.out.mono fun _ _ h => h.elim)) (fun hHeld => ?_))
                  clear hKK KK
                  refine wpAnyH_ready (rs := [5]) (by kernel_rfl) (by simp) (AllReadyH.cons rfl (fun KK hKK => ?_) (AllReadyH.nil))
                  go_simp
                  have HGP := HG
                  refine (KT C V _ rfl HCF.out HVP.out _ HG.out (HC.out.fr HF0.out) (HVO.out.fr HF1.out)).mono ?_
                  rintro _ v2 ⟨K2, rfl, hk2, ho2, fa⟩
                  have HG := Lib.hid (fr_nil HG.out fa)
                  have HF0 := Lib.hid (fr_nil HF0.out fa)
                  have HF1 := Lib.hid (fr_nil HF1.out fa)
                  have HF2 := Lib.hid (Fr.refl (fun _ => False) v2)
                  have HK2 := Lib.hid hk2
                  have HO := Lib.hid (ho2.base HGP.out.size)
                  clear hk2 ho2
                  unfold Km.val Km.arr
                  clear fa
                  (with_reducible refine hKK.out _ _ (HS.out _ (HG.out.mono fun _ _ h => h.elim)) (fun hHeld => ?_))
                  clear hKK KK
                  refine wpAnyH_take (i := 6) (oi := { dst := some 122, op := _, type := _, pos := _, after := _, guard := _ }) (v := ?_) rfl (by kernel_rfl) (by kernel_rfl) (by kernel_rfl) (fun _ _ _ h => h) (Or.inl ⟨by rfl, ?_⟩) (by assumption) ?_
                  rotate_left
                  · intro Wx hSw
                    try dsimp only at hSw
                    go_simp
                    try with_reducible rfl
                  try simp only [Act.put, List.setIfInBounds_toArray, List.set_cons_zero, List.set_cons_succ]
                  refine wpAnyH_take (i := 7) (oi := { dst := some 129, op := _, type := _, pos := _, after := _, guard := _ }) (v := ?_) rfl (by kernel_rfl) (by kernel_rfl) (by kernel_rfl) (fun _ _ _ h => h) (Or.inl ⟨by rfl, ?_⟩) (by assumption) ?_
                  rotate_left
                  · intro Wx hSw
                    try dsimp only at hSw
                    go_simp
                    try with_reducible rfl
                  try simp only [Act.put, List.setIfInBounds_toArray, List.set_cons_zero, List.set_cons_succ]
                  refine wpAnyH_take (i := 8) (oi := { dst := some 130, op := _, type := _, pos := _, after := _, guard := _ }) (v := ?_) rfl (by kernel_rfl) (by kernel_rfl) (by kernel_rfl) (fun _ _ _ h => h) (Or.inl ⟨by rfl, ?_⟩) (by assumption) ?_
                  rotate_left
                  · intro Wx hSw
                    try dsimp only at hSw
                    go_simp
                    try with_reducible rfl
                  try simp only [Act.put, List.setIfInBounds_toArray, List.set_cons_zero, List.set_cons_succ]
                  refine wpAnyH_ready (rs := [9]) (by kernel_rfl) (by simp) (AllReadyH.cons rfl (fun KK hKK => ?_) (AllReadyH.nil))
                  have isr := HB.out.is.fr HG.out id
                  unfold Km.arr at isr
                  obtain ⟨m0, m1, m2, m3, m4, m5, m6⟩ := seven isr
                  have z0 := isr.frozen 0
                  have z1 := isr.frozen 1
                  have z2 := isr.frozen 2
                  have z3 := isr.frozen 3
                  have z4 := isr.frozen 4
                  have z5 := isr.frozen 5
                  have z6 := isr.frozen 6
                  go_simp
                  have HOn := Lib.hid ((HO.out.fr HF2.out fun _ _ => id).base HB.out.f.size)
                  have isR := (((((((isr.set 0 (.slice K2.A1 K2.own.length K2.c1)).set 1 (.slice K2.A2 K2.rts.length K2.c2)).set 2 (.slice K2.A3 K2.pts.length K2.c3)).set 3 (.slice K2.A4 K2.crs.length K2.c4)).set 4 (.slice K2.A5 K2.lns.length K2.c5)).set 5 (.slice K2.A6 K2.rss.length K2.c6)).set 6 (.bool K2.dirty))
                  have fR := ((((((((Fr.refl (fun q => q = kb) (v2)).setCell (p := ⟨kb, 0, none⟩) (.inl rfl) (.slice K2.A1 K2.own.length K2.c1)).setCell (p := ⟨kb, 1, none⟩) (.inl rfl) (.slice K2.A2 K2.rts.length K2.c2)).setCell (p := ⟨kb, 2, none⟩) (.inl rfl) (.slice K2.A3 K2.pts.length K2.c3)).setCell (p := ⟨kb, 3, none⟩) (.inl rfl) (.slice K2.A4 K2.crs.length K2.c4)).setCell (p := ⟨kb, 4, none⟩) (.inl rfl) (.slice K2.A5 K2.lns.length K2.c5)).setCell (p := ⟨kb, 5, none⟩) (.inl rfl) (.slice K2.A6 K2.rss.length K2.c6)).setCell (p := ⟨kb, 6, none⟩) (.inl rfl) (.bool K2.dirty))
                  simp only [List.setIfInBounds_toArray, List.set_cons_zero, List.set_cons_succ] at isR
                  have HBN : Hid (Bx w3 ((((((((v2).setCell ⟨kb, 0, none⟩ (.slice K2.A1 K2.own.length K2.c1)).setCell ⟨kb, 1, none⟩ (.slice K2.A2 K2.rts.length K2.c2)).setCell ⟨kb, 2, none⟩ (.slice K2.A3 K2.pts.length K2.c3)).setCell ⟨kb, 3, none⟩ (.slice K2.A4 K2.crs.length K2.c4)).setCell ⟨kb, 4, none⟩ (.slice K2.A5 K2.lns.length K2.c5)).setCell ⟨kb, 5, none⟩ (.slice K2.A6 K2.rss.length K2.c6)).setCell ⟨kb, 6, none⟩ (.bool K2.dirty)) kb K2) := Lib.hid ⟨isR, HOn.out.fr fR fun k hk e => HOn.out.ne_is isr (by decide) (by decide) (by decide) (by decide) (e ▸ hk), ((((((((fr_nil HB.out.f HG.out).setCell (p := ⟨kb, 0, none⟩) (.inr HB.out.hb) (.slice K2.A1 K2.own.length K2.c1)).setCell (p := ⟨kb, 1, none⟩) (.inr HB.out.hb) (.slice K2.A2 K2.rts.length K2.c2)).setCell (p := ⟨kb, 2, none⟩) (.inr HB.out.hb) (.slice K2.A3 K2.pts.length K2.c3)).setCell (p := ⟨kb, 3, none⟩) (.inr HB.out.hb) (.slice K2.A4 K2.crs.length K2.c4)).setCell (p := ⟨kb, 4, none⟩) (.inr HB.out.hb) (.slice K2.A5 K2.lns.length K2.c5)).setCell (p := ⟨kb, 5, none⟩) (.inr HB.out.hb) (.slice K2.A6 K2.rss.length K2.c6)).setCell (p := ⟨kb, 6, none⟩) (.inr HB.out.hb) (.bool K2.dirty)), HB.out.hb⟩
                  have HFK := Lib.hid ((HG.out.mono (S' := fun q => q = kb) fun _ _ h => h.elim).trans fR fun _ _ h => h)
                  clear isR fR isr
                  (with_reducible refine hKK.out _ _ (HS.out _ HFK.out) (fun hHeld => ?_))
                  clear hKK KK
                  clear m0 m1 m2 m3 m4 m5 m6 z0 z1 z2 z3 z4 z5 z6
                  refine wpAnyH_take (i := 10) (oi := { dst := some 7, op := _, type := _, pos := _, after := _, guard := _ }) (v := ?_) rfl (by kernel_rfl) (by kernel_rfl) (by kernel_rfl) (fun _ _ _ h => h) (Or.inl ⟨by rfl, ?_⟩) (by assumption) ?_
                  rotate_left
                  · intro Wx hSw
                    try dsimp only at hSw
                    go_simp
                    try with_reducible rfl
                  try simp only [Act.put, List.setIfInBounds_toArray, List.set_cons_zero, List.set_cons_succ]
                  refine wpAnyH_done (by kernel_rfl) ?_ _
                  go_wp2_with fail
                  go_meet
                  case rel => exact ⟨K2, rfl, HK2.out, HBN.out⟩
              case rest =>
                obtain ⟨K9, rfl, hk, hb⟩ := hcut
                clear HB HK
                have HB := Lib.hid hb
                have HK := Lib.hid hk
                clear hk hb
                generalize K9 = K at *
                obtain ⟨g1, o1, g5, o5, c0, d0, c1, c2, c3, c4, c5, c6, -⟩ := look_at HB.out HK.out
                have i9 : wrap64 ((i : Int) + 1) = ((i + 1 : Nat) : Int) := by rw [IntWalk.wrap64_in _ ⟨by omega, by have := HLT.out; omega⟩]; omega
                go_wp2_with fail
                go_roundg (3 - (i + 1))
                case measure => have := HLT.out; omega
                case rel => exact ⟨i + 1, a, nw + 2, n1, K, HLT.out, rfl, rfl, rfl, by rw [i9], by have := HN1.out; push_cast; omega, by have := HA.out; omega, by have := HA.out; omega, by rw [if_neg (by omega)], HK.out, HB.out⟩
            · have hi3 : i = 3 := by omega
              subst hi3
              clear hlt hi
              have hs3 : s = nw + 2 := by have := HSS.out; rw [if_neg (by decide)] at this; exact this
              have HN2 : Hid (n2 = nw + 3) := Lib.hid (by have := HT2.out; omega)
              subst hs3
              clear HSS
              obtain ⟨k0, k1, k2, k3, k4, k5, k6⟩ := Bk.core7 (K := K) HB.out.is
              obtain ⟨n1, hn1⟩ : ∃ n1 : Int, n1 = n2 + 1 := ⟨_, rfl⟩
              have h8 : wrap64 (n2 + 1) = n1 := by rw [IntWalk.wrap64_in _ ⟨by have := HN2.out; have := HNW.out; omega, by have := HN2.out; have := HNW.out; omega⟩]; exact hn1.symm
              have HN1 : Hid (n1 = nw + 4 ∧ 0 ≤ n1 ∧ n1 ≤ 100) := Lib.hid (by have := HN2.out; have := HNW.out; omega)
              clear hn1
              go_upto_region 29 with fail
              have HWB := Lib.hid (Is.new wr 35 #[.slice K.A1 K.own.length K.c1, .slice K.A2 K.rts.length K.c2, .slice K.A3 K.pts.length K.c3, .slice K.A4 K.crs.length K.c4, .slice K.A5 K.lns.length K.c5, .slice K.A6 K.rss.length K.c6, .bool K.dirty])
              have hfa := (Fr.refl (fun _ => False) wr).alloc (.cells #[.slice K.A1 K.own.length K.c1, .slice K.A2 K.rts.length K.c2, .slice K.A3 K.pts.length K.c3, .slice K.A4 K.crs.length K.c4, .slice K.A5 K.lns.length K.c5, .slice K.A6 K.rss.length K.c6, .bool K.dirty] 35)
              have HB := Lib.hid (HB.out.fr hfa)
              have HNE : Hid (kb < wr.heap.size) := Lib.hid (World.block_lt_of_cell? _ _ k0)
              clear k0 k1 k2 k3 k4 k5 k6 hfa
              generalize wr.alloc _ = w9 at *
              generalize wr.heap.size = wb at *
              go_upto_region 30 with fail
              simp only [h8]
              clear h8
              go_cut [7] from 143 to 152 (fun v7 wx => ∃ K2 : Km, v7 = .int .i64 0 ∧ K2.kp = endK 0 0 default (lnG a a a a 0) true ∧ Bx w3 wx kb K2 ∧ Fr (fun q => q = kb) w9 wx)
              case first =>
                have KT : ∀ (C : Cm) (V : Vm) (oc : Int), oc = 0 → C.cf = endF → V.vp = seenV oc n1 → ∀ W, Fr (fun _ => False) w9 W → C.Ok W → V.Ok W → Calls Try.prog 7 #[.agg #[.slice C.A1 C.l.length C.c1, .slice C.A2 C.js.length C.c2, .slice C.A3 C.sg.length C.c3, .slice C.A4 C.cr.length C.c4, .slice C.A5 C.rs.length C.c5, .int .i64 C.tm.age, .int .i64 C.tm.brake, .int .i64 C.tm.hold, .int .i64 C.tm.budget], .agg #[.slice K.A1 K.own.length K.c1, .slice K.A2 K.rts.length K.c2, .slice K.A3 K.pts.length K.c3, .slice K.A4 K.crs.length K.c4, .slice K.A5 K.lns.length K.c5, .slice K.A6 K.rss.length K.c6, .bool K.dirty], .agg #[.slice V.A1 V.occ.length V.c1, .slice V.A2 V.pos.length V.c2, .slice V.A3 V.shut.length V.c3, .slice V.A4 V.lamp.length V.c4], .int .i64 n1] W (Out W (endK 0 0 default (lnG a a a a 0) true, 0)) := fun C V oc hoc hcf hv W f hC hV => by
                  subst hoc
                  have := bstep_any hC (endK_ok (HB.out.own.fr f fun _ _ => id) HK.out (okG (by decide) (by have := HA.out; omega) (by have := HT2.out; omega) (by have := HA.out; omega) (by have := HA.out; omega) (by have := HNW.out; omega))) hV n1
                  rw [hv, hcf, HK.out, end_step (okG (by decide) (by have := HA.out; omega) (by have := HT2.out; omega) (by have := HA.out; omega) (by have := HA.out; omega) (by have := HNW.out; omega)) (tm_ok (by have := HN1.out; omega) (by have := HN1.out; omega)), sE (by have := HNW.out; omega) (by have := HN1.out; omega)] at this
                  exact this
                have HS : Hid (∀ W, Fr (fun q => q = kb) w9 W → (fun Wx => True) W) := Lib.hid fun _ _ => trivial
                have HG := Lib.hid (Fr.refl (fun _ => False) w9).drew
                refine wp_region_held_drew (S := (fun Wx => True)) (by kernel_rfl) (HS.out _ (Fr.refl _ w9).drew) (fun hHeld => ?_)
                generalize w9.drew = wdr at *
                refine wpAnyH_take (i := 2) (oi := { dst := some 146, op := _, type := _, pos := _, after := _, guard := _ }) (v := ?_) rfl (by kernel_rfl) (by kernel_rfl) (by kernel_rfl) (fun _ _ _ h => h) (Or.inl ⟨by rfl, ?_⟩) (by assumption) ?_
                rotate_left
                · intro Wx hSw
                  try dsimp only at hSw
                  go_simp
                  try with_reducible rfl
                try simp only [Act.put, List.setIfInBounds_toArray, List.set_cons_zero, List.set_cons_succ]
                refine wpAnyH_take (i := 4) (oi := { dst := some 148, op := _, type := _, pos := _, after := _, guard := _ }) (v := ?_) rfl (by kernel_rfl) (by kernel_rfl) (by kernel_rfl) (fun _ _ _ h => h) (Or.inl ⟨by rfl, ?_⟩) (by assumption) ?_
                rotate_left
                · intro Wx hSw
                  try dsimp only at hSw
                  go_simp
                  try with_reducible rfl
                try simp only [Act.put, List.setIfInBounds_toArray, List.set_cons_zero, List.set_cons_succ]
                refine wpAnyH_ready (rs := [0, 1]) (by kernel_rfl) (by simp) (AllReadyH.cons rfl (fun KK hKK => ?_) (AllReadyH.cons rfl (fun KK hKK => ?_) (AllReadyH.nil)))
                · go_simp
                  have HGP := HG
                  refine (end15_any _).mono ?_
                  rintro _ v0 ⟨C, rfl, hcf, -, hC, fa⟩
                  have HG := Lib.hid (fr_nil HG.out fa)
                  have HF0 := Lib.hid (Fr.refl (fun _ => False) v0)
                  have HCF := Lib.hid hcf
                  have HC := Lib.hid hC
                  clear hcf hC
                  unfold Cm.val Cm.arr
                  clear fa
                  (with_reducible refine hKK.out _ _ (HS.out _ (HG.out.mono fun _ _ h => h.elim)) (fun hHeld => ?_))
                  clear hKK KK
                  refine wpAnyH_ready (rs := [1, 3]) (by kernel_rfl) (by simp) (AllReadyH.cons rfl (fun KK hKK => ?_) (AllReadyH.cons rfl (fun KK hKK => ?_) (AllReadyH.nil)))
                  · obtain ⟨k0, k1, k2, k3, k4, k5, k6⟩ := Bk.core7 (K := K) (HB.out.is.fr HG.out id)
                    go_simp
                    (with_reducible refine hKK.out _ _ (HS.out _ (HG.out.mono fun _ _ h => h.elim)) (fun hHeld => ?_))
                    clear hKK KK
                    clear k0 k1 k2 k3 k4 k5 k6
                    refine wpAnyH_ready (rs := [3]) (by kernel_rfl) (by simp) (AllReadyH.cons rfl (fun KK hKK => ?_) (AllReadyH.nil))
                    go_simp
                    have HGP := HG
                    refine (seen15_any 0 n1 _).mono ?_
                    rintro _ v1 ⟨V, rfl, hv, hvo, fa⟩
                    have HG := Lib.hid (fr_nil HG.out fa)
                    have HF0 := Lib.hid (fr_nil HF0.out fa)
                    have HF1 := Lib.hid (Fr.refl (fun _ => False) v1)
                    have HVP := Lib.hid hv
                    have HVO := Lib.hid hvo
                    clear hv hvo
                    unfold Vm.val Vm.arr
                    clear fa
                    (with_reducible refine hKK.out _ _ (HS.out _ (HG.out.mono fun _ _ h => h.elim)) (fun hHeld => ?_))
                    clear hKK KK
                    refine wpAnyH_ready (rs := [5]) (by kernel_rfl) (by simp) (AllReadyH.cons rfl (fun KK hKK => ?_) (AllReadyH.nil))
                    go_simp
                    have HGP := HG
                    refine (KT C V _ rfl HCF.out HVP.out _ HG.out (HC.out.fr HF0.out) (HVO.out.fr HF1.out)).mono ?_
                    rintro _ v2 ⟨K2, rfl, hk2, ho2, fa⟩
                    have HG := Lib.hid (fr_nil HG.out fa)
                    have HF0 := Lib.hid (fr_nil HF0.out fa)
                    have HF1 := Lib.hid (fr_nil HF1.out fa)
                    have HF2 := Lib.hid (Fr.refl (fun _ => False) v2)
                    have HK2 := Lib.hid hk2
                    have HO := Lib.hid (ho2.base HGP.out.size)
                    clear hk2 ho2
                    unfold Km.val Km.arr
                    clear fa
                    (with_reducible refine hKK.out _ _ (HS.out _ (HG.out.mono fun _ _ h => h.elim)) (fun hHeld => ?_))
                    clear hKK KK
                    refine wpAnyH_take (i := 6) (oi := { dst := some 143, op := _, type := _, pos := _, after := _, guard := _ }) (v := ?_) rfl (by kernel_rfl) (by kernel_rfl) (by kernel_rfl) (fun _ _ _ h => h) (Or.inl ⟨by rfl, ?_⟩) (by assumption) ?_
                    rotate_left
                    · intro Wx hSw
                      try dsimp only at hSw
                      go_simp
                      try with_reducible rfl
                    try simp only [Act.put, List.setIfInBounds_toArray, List.set_cons_zero, List.set_cons_succ]
                    refine wpAnyH_take (i := 7) (oi := { dst := some 150, op := _, type := _, pos := _, after := _, guard := _ }) (v := ?_) rfl (by kernel_rfl) (by kernel_rfl) (by kernel_rfl) (fun _ _ _ h => h) (Or.inl ⟨by rfl, ?_⟩) (by assumption) ?_
                    rotate_left
                    · intro Wx hSw
                      try dsimp only at hSw
                      go_simp
                      try with_reducible rfl
                    try simp only [Act.put, List.setIfInBounds_toArray, List.set_cons_zero, List.set_cons_succ]
                    refine wpAnyH_take (i := 8) (oi := { dst := some 151, op := _, type := _, pos := _, after := _, guard := _ }) (v := ?_) rfl (by kernel_rfl) (by kernel_rfl) (by kernel_rfl) (fun _ _ _ h => h) (Or.inl ⟨by rfl, ?_⟩) (by assumption) ?_
                    rotate_left
                    · intro Wx hSw
                      try dsimp only at hSw
                      go_simp
                      try with_reducible rfl
                    try simp only [Act.put, List.setIfInBounds_toArray, List.set_cons_zero, List.set_cons_succ]
                    refine wpAnyH_ready (rs := [9]) (by kernel_rfl) (by simp) (AllReadyH.cons rfl (fun KK hKK => ?_) (AllReadyH.nil))
                    have isr := HB.out.is.fr HG.out id
                    unfold Km.arr at isr
                    obtain ⟨m0, m1, m2, m3, m4, m5, m6⟩ := seven isr
                    have z0 := isr.frozen 0
                    have z1 := isr.frozen 1
                    have z2 := isr.frozen 2
                    have z3 := isr.frozen 3
                    have z4 := isr.frozen 4
                    have z5 := isr.frozen 5
                    have z6 := isr.frozen 6
                    go_simp
                    have HOn := Lib.hid ((HO.out.fr HF2.out fun _ _ => id).base HB.out.f.size)
                    have isR := (((((((isr.set 0 (.slice K2.A1 K2.own.length K2.c1)).set 1 (.slice K2.A2 K2.rts.length K2.c2)).set 2 (.slice K2.A3 K2.pts.length K2.c3)).set 3 (.slice K2.A4 K2.crs.length K2.c4)).set 4 (.slice K2.A5 K2.lns.length K2.c5)).set 5 (.slice K2.A6 K2.rss.length K2.c6)).set 6 (.bool K2.dirty))
                    have fR := ((((((((Fr.refl (fun q => q = kb) (v2)).setCell (p := ⟨kb, 0, none⟩) (.inl rfl) (.slice K2.A1 K2.own.length K2.c1)).setCell (p := ⟨kb, 1, none⟩) (.inl rfl) (.slice K2.A2 K2.rts.length K2.c2)).setCell (p := ⟨kb, 2, none⟩) (.inl rfl) (.slice K2.A3 K2.pts.length K2.c3)).setCell (p := ⟨kb, 3, none⟩) (.inl rfl) (.slice K2.A4 K2.crs.length K2.c4)).setCell (p := ⟨kb, 4, none⟩) (.inl rfl) (.slice K2.A5 K2.lns.length K2.c5)).setCell (p := ⟨kb, 5, none⟩) (.inl rfl) (.slice K2.A6 K2.rss.length K2.c6)).setCell (p := ⟨kb, 6, none⟩) (.inl rfl) (.bool K2.dirty))
                    simp only [List.setIfInBounds_toArray, List.set_cons_zero, List.set_cons_succ] at isR
                    have HBN : Hid (Bx w3 ((((((((v2).setCell ⟨kb, 0, none⟩ (.slice K2.A1 K2.own.length K2.c1)).setCell ⟨kb, 1, none⟩ (.slice K2.A2 K2.rts.length K2.c2)).setCell ⟨kb, 2, none⟩ (.slice K2.A3 K2.pts.length K2.c3)).setCell ⟨kb, 3, none⟩ (.slice K2.A4 K2.crs.length K2.c4)).setCell ⟨kb, 4, none⟩ (.slice K2.A5 K2.lns.length K2.c5)).setCell ⟨kb, 5, none⟩ (.slice K2.A6 K2.rss.length K2.c6)).setCell ⟨kb, 6, none⟩ (.bool K2.dirty)) kb K2) := Lib.hid ⟨isR, HOn.out.fr fR fun k hk e => HOn.out.ne_is isr (by decide) (by decide) (by decide) (by decide) (e ▸ hk), ((((((((fr_nil HB.out.f HG.out).setCell (p := ⟨kb, 0, none⟩) (.inr HB.out.hb) (.slice K2.A1 K2.own.length K2.c1)).setCell (p := ⟨kb, 1, none⟩) (.inr HB.out.hb) (.slice K2.A2 K2.rts.length K2.c2)).setCell (p := ⟨kb, 2, none⟩) (.inr HB.out.hb) (.slice K2.A3 K2.pts.length K2.c3)).setCell (p := ⟨kb, 3, none⟩) (.inr HB.out.hb) (.slice K2.A4 K2.crs.length K2.c4)).setCell (p := ⟨kb, 4, none⟩) (.inr HB.out.hb) (.slice K2.A5 K2.lns.length K2.c5)).setCell (p := ⟨kb, 5, none⟩) (.inr HB.out.hb) (.slice K2.A6 K2.rss.length K2.c6)).setCell (p := ⟨kb, 6, none⟩) (.inr HB.out.hb) (.bool K2.dirty)), HB.out.hb⟩
                    have HFK := Lib.hid ((HG.out.mono (S' := fun q => q = kb) fun _ _ h => h.elim).trans fR fun _ _ h => h)
                    clear isR fR isr
                    (with_reducible refine hKK.out _ _ (HS.out _ HFK.out) (fun hHeld => ?_))
                    clear hKK KK
                    clear m0 m1 m2 m3 m4 m5 m6 z0 z1 z2 z3 z4 z5 z6
                    refine wpAnyH_take (i := 10) (oi := { dst := some 7, op := _, type := _, pos := _, after := _, guard := _ }) (v := ?_) rfl (by kernel_rfl) (by kernel_rfl) (by kernel_rfl) (fun _ _ _ h => h) (Or.inl ⟨by rfl, ?_⟩) (by assumption) ?_
                    rotate_left
                    · intro Wx hSw
                      try dsimp only at hSw
                      go_simp
                      try with_reducible rfl
                    try simp only [Act.put, List.setIfInBounds_toArray, List.set_cons_zero, List.set_cons_succ]
                    refine wpAnyH_done (by kernel_rfl) ?_ _
                    go_wp2_with fail
                    go_meet
                    case rel => exact ⟨K2, rfl, HK2.out, HBN.out, HFK.out⟩
                  · go_simp
                    have HGP := HG
                    refine (seen15_any 0 n1 _).mono ?_
                    rintro _ v1 ⟨V, rfl, hv, hvo, fa⟩
                    have HG := Lib.hid (fr_nil HG.out fa)
                    have HF0 := Lib.hid (fr_nil HF0.out fa)
                    have HF1 := Lib.hid (Fr.refl (fun _ => False) v1)
                    have HVP := Lib.hid hv
                    have HVO := Lib.hid hvo
                    clear hv hvo
                    unfold Vm.val Vm.arr
                    clear fa
                    (with_reducible refine hKK.out _ _ (HS.out _ (HG.out.mono fun _ _ h => h.elim)) (fun hHeld => ?_))
                    clear hKK KK
                    refine wpAnyH_ready (rs := [1]) (by kernel_rfl) (by simp) (AllReadyH.cons rfl (fun KK hKK => ?_) (AllReadyH.nil))
                    obtain ⟨k0, k1, k2, k3, k4, k5, k6⟩ := Bk.core7 (K := K) (HB.out.is.fr HG.out id)
                    go_simp
                    (with_reducible refine hKK.out _ _ (HS.out _ (HG.out.mono fun _ _ h => h.elim)) (fun hHeld => ?_))
                    clear hKK KK
                    clear k0 k1 k2 k3 k4 k5 k6
                    refine wpAnyH_ready (rs := [5]) (by kernel_rfl) (by simp) (AllReadyH.cons rfl (fun KK hKK => ?_) (AllReadyH.nil))
                    go_simp
                    have HGP := HG
                    refine (KT C V _ rfl HCF.out HVP.out _ HG.out (HC.out.fr HF0.out) (HVO.out.fr HF1.out)).mono ?_
                    rintro _ v2 ⟨K2, rfl, hk2, ho2, fa⟩
                    have HG := Lib.hid (fr_nil HG.out fa)
                    have HF0 := Lib.hid (fr_nil HF0.out fa)
                    have HF1 := Lib.hid (fr_nil HF1.out fa)
                    have HF2 := Lib.hid (Fr.refl (fun _ => False) v2)
                    have HK2 := Lib.hid hk2
                    have HO := Lib.hid (ho2.base HGP.out.size)
                    clear hk2 ho2
                    unfold Km.val Km.arr
                    clear fa
                    (with_reducible refine hKK.out _ _ (HS.out _ (HG.out.mono fun _ _ h => h.elim)) (fun hHeld => ?_))
                    clear hKK KK
                    refine wpAnyH_take (i := 6) (oi := { dst := some 143, op := _, type := _, pos := _, after := _, guard := _ }) (v := ?_) rfl (by kernel_rfl) (by kernel_rfl) (by kernel_rfl) (fun _ _ _ h => h) (Or.inl ⟨by rfl, ?_⟩) (by assumption) ?_
                    rotate_left
                    · intro Wx hSw
                      try dsimp only at hSw
                      go_simp
                      try with_reducible rfl
                    try simp only [Act.put, List.setIfInBounds_toArray, List.set_cons_zero, List.set_cons_succ]
                    refine wpAnyH_take (i := 7) (oi := { dst := some 150, op := _, type := _, pos := _, after := _, guard := _ }) (v := ?_) rfl (by kernel_rfl) (by kernel_rfl) (by kernel_rfl) (fun _ _ _ h => h) (Or.inl ⟨by rfl, ?_⟩) (by assumption) ?_
                    rotate_left
                    · intro Wx hSw
                      try dsimp only at hSw
                      go_simp
                      try with_reducible rfl
                    try simp only [Act.put, List.setIfInBounds_toArray, List.set_cons_zero, List.set_cons_succ]
                    refine wpAnyH_take (i := 8) (oi := { dst := some 151, op := _, type := _, pos := _, after := _, guard := _ }) (v := ?_) rfl (by kernel_rfl) (by kernel_rfl) (by kernel_rfl) (fun _ _ _ h => h) (Or.inl ⟨by rfl, ?_⟩) (by assumption) ?_
                    rotate_left
                    · intro Wx hSw
                      try dsimp only at hSw
                      go_simp
                      try with_reducible rfl
                    try simp only [Act.put, List.setIfInBounds_toArray, List.set_cons_zero, List.set_cons_succ]
                    refine wpAnyH_ready (rs := [9]) (by kernel_rfl) (by simp) (AllReadyH.cons rfl (fun KK hKK => ?_) (AllReadyH.nil))
                    have isr := HB.out.is.fr HG.out id
                    unfold Km.arr at isr
                    obtain ⟨m0, m1, m2, m3, m4, m5, m6⟩ := seven isr
                    have z0 := isr.frozen 0
                    have z1 := isr.frozen 1
                    have z2 := isr.frozen 2
                    have z3 := isr.frozen 3
                    have z4 := isr.frozen 4
                    have z5 := isr.frozen 5
                    have z6 := isr.frozen 6
                    go_simp
                    have HOn := Lib.hid ((HO.out.fr HF2.out fun _ _ => id).base HB.out.f.size)
                    have isR := (((((((isr.set 0 (.slice K2.A1 K2.own.length K2.c1)).set 1 (.slice K2.A2 K2.rts.length K2.c2)).set 2 (.slice K2.A3 K2.pts.length K2.c3)).set 3 (.slice K2.A4 K2.crs.length K2.c4)).set 4 (.slice K2.A5 K2.lns.length K2.c5)).set 5 (.slice K2.A6 K2.rss.length K2.c6)).set 6 (.bool K2.dirty))
                    have fR := ((((((((Fr.refl (fun q => q = kb) (v2)).setCell (p := ⟨kb, 0, none⟩) (.inl rfl) (.slice K2.A1 K2.own.length K2.c1)).setCell (p := ⟨kb, 1, none⟩) (.inl rfl) (.slice K2.A2 K2.rts.length K2.c2)).setCell (p := ⟨kb, 2, none⟩) (.inl rfl) (.slice K2.A3 K2.pts.length K2.c3)).setCell (p := ⟨kb, 3, none⟩) (.inl rfl) (.slice K2.A4 K2.crs.length K2.c4)).setCell (p := ⟨kb, 4, none⟩) (.inl rfl) (.slice K2.A5 K2.lns.length K2.c5)).setCell (p := ⟨kb, 5, none⟩) (.inl rfl) (.slice K2.A6 K2.rss.length K2.c6)).setCell (p := ⟨kb, 6, none⟩) (.inl rfl) (.bool K2.dirty))
                    simp only [List.setIfInBounds_toArray, List.set_cons_zero, List.set_cons_succ] at isR
                    have HBN : Hid (Bx w3 ((((((((v2).setCell ⟨kb, 0, none⟩ (.slice K2.A1 K2.own.length K2.c1)).setCell ⟨kb, 1, none⟩ (.slice K2.A2 K2.rts.length K2.c2)).setCell ⟨kb, 2, none⟩ (.slice K2.A3 K2.pts.length K2.c3)).setCell ⟨kb, 3, none⟩ (.slice K2.A4 K2.crs.length K2.c4)).setCell ⟨kb, 4, none⟩ (.slice K2.A5 K2.lns.length K2.c5)).setCell ⟨kb, 5, none⟩ (.slice K2.A6 K2.rss.length K2.c6)).setCell ⟨kb, 6, none⟩ (.bool K2.dirty)) kb K2) := Lib.hid ⟨isR, HOn.out.fr fR fun k hk e => HOn.out.ne_is isr (by decide) (by decide) (by decide) (by decide) (e ▸ hk), ((((((((fr_nil HB.out.f HG.out).setCell (p := ⟨kb, 0, none⟩) (.inr HB.out.hb) (.slice K2.A1 K2.own.length K2.c1)).setCell (p := ⟨kb, 1, none⟩) (.inr HB.out.hb) (.slice K2.A2 K2.rts.length K2.c2)).setCell (p := ⟨kb, 2, none⟩) (.inr HB.out.hb) (.slice K2.A3 K2.pts.length K2.c3)).setCell (p := ⟨kb, 3, none⟩) (.inr HB.out.hb) (.slice K2.A4 K2.crs.length K2.c4)).setCell (p := ⟨kb, 4, none⟩) (.inr HB.out.hb) (.slice K2.A5 K2.lns.length K2.c5)).setCell (p := ⟨kb, 5, none⟩) (.inr HB.out.hb) (.slice K2.A6 K2.rss.length K2.c6)).setCell (p := ⟨kb, 6, none⟩) (.inr HB.out.hb) (.bool K2.dirty)), HB.out.hb⟩
                    have HFK := Lib.hid ((HG.out.mono (S' := fun q => q = kb) fun _ _ h => h.elim).trans fR fun _ _ h => h)
                    clear isR fR isr
                    (with_reducible refine hKK.out _ _ (HS.out _ HFK.out) (fun hHeld => ?_))
                    clear hKK KK
                    clear m0 m1 m2 m3 m4 m5 m6 z0 z1 z2 z3 z4 z5 z6
                    refine wpAnyH_take (i := 10) (oi := { dst := some 7, op := _, type := _, pos := _, after := _, guard := _ }) (v := ?_) rfl (by kernel_rfl) (by kernel_rfl) (by kernel_rfl) (fun _ _ _ h => h) (Or.inl ⟨by rfl, ?_⟩) (by assumption) ?_
                    rotate_left
                    · intro Wx hSw
                      try dsimp only at hSw
                      go_simp
                      try with_reducible rfl
                    try simp only [Act.put, List.setIfInBounds_toArray, List.set_cons_zero, List.set_cons_succ]
                    refine wpAnyH_done (by kernel_rfl) ?_ _
                    go_wp2_with fail
                    go_meet
                    case rel => exact ⟨K2, rfl, HK2.out, HBN.out, HFK.out⟩
                · obtain ⟨k0, k1, k2, k3, k4, k5, k6⟩ := Bk.core7 (K := K) (HB.out.is.fr HG.out id)
                  go_simp
                  (with_reducible refine hKK.out _ _ (HS.out _ (HG.out.mono fun _ _ h => h.elim)) (fun hHeld => ?_))
                  clear hKK KK
                  clear k0 k1 k2 k3 k4 k5 k6
                  refine wpAnyH_ready (rs := [0]) (by kernel_rfl) (by simp) (AllReadyH.cons rfl (fun KK hKK => ?_) (AllReadyH.nil))
                  go_simp
                  have HGP := HG
                  refine (end15_any _).mono ?_
                  rintro _ v0 ⟨C, rfl, hcf, -, hC, fa⟩
                  have HG := Lib.hid (fr_nil HG.out fa)
                  have HF0 := Lib.hid (Fr.refl (fun _ => False) v0)
                  have HCF := Lib.hid hcf
                  have HC := Lib.hid hC
                  clear hcf hC
                  unfold Cm.val Cm.arr
                  clear fa
                  (with_reducible refine hKK.out _ _ (HS.out _ (HG.out.mono fun _ _ h => h.elim)) (fun hHeld => ?_))
                  clear hKK KK
                  refine wpAnyH_ready (rs := [3]) (by kernel_rfl) (by simp) (AllReadyH.cons rfl (fun KK hKK => ?_) (AllReadyH.nil))
                  go_simp
                  have HGP := HG
                  refine (seen15_any 0 n1 _).mono ?_
                  rintro _ v1 ⟨V, rfl, hv, hvo, fa⟩
                  have HG := Lib.hid (fr_nil HG.out fa)
                  have HF0 := Lib.hid (fr_nil HF0.out fa)
                  have HF1 := Lib.hid (Fr.refl (fun _ => False) v1)
                  have HVP := Lib.hid hv
                  have HVO := Lib.hid hvo
                  clear hv hvo
                  unfold Vm.val Vm.arr
                  clear fa
                  (with_reducible refine hKK.out _ _ (HS.out _ (HG.out.mono fun _ _ h => h.elim)) (fun hHeld => ?_))
                  clear hKK KK
                  refine wpAnyH_ready (rs := [5]) (by kernel_rfl) (by simp) (AllReadyH.cons rfl (fun KK hKK => ?_) (AllReadyH.nil))
                  go_simp
                  have HGP := HG
                  refine (KT C V _ rfl HCF.out HVP.out _ HG.out (HC.out.fr HF0.out) (HVO.out.fr HF1.out)).mono ?_
                  rintro _ v2 ⟨K2, rfl, hk2, ho2, fa⟩
                  have HG := Lib.hid (fr_nil HG.out fa)
                  have HF0 := Lib.hid (fr_nil HF0.out fa)
                  have HF1 := Lib.hid (fr_nil HF1.out fa)
                  have HF2 := Lib.hid (Fr.refl (fun _ => False) v2)
                  have HK2 := Lib.hid hk2
                  have HO := Lib.hid (ho2.base HGP.out.size)
                  clear hk2 ho2
                  unfold Km.val Km.arr
                  clear fa
                  (with_reducible refine hKK.out _ _ (HS.out _ (HG.out.mono fun _ _ h => h.elim)) (fun hHeld => ?_))
                  clear hKK KK
                  refine wpAnyH_take (i := 6) (oi := { dst := some 143, op := _, type := _, pos := _, after := _, guard := _ }) (v := ?_) rfl (by kernel_rfl) (by kernel_rfl) (by kernel_rfl) (fun _ _ _ h => h) (Or.inl ⟨by rfl, ?_⟩) (by assumption) ?_
                  rotate_left
                  · intro Wx hSw
                    try dsimp only at hSw
                    go_simp
                    try with_reducible rfl
                  try simp only [Act.put, List.setIfInBounds_toArray, List.set_cons_zero, List.set_cons_succ]
                  refine wpAnyH_take (i := 7) (oi := { dst := some 150, op := _, type := _, pos := _, after := _, guard := _ }) (v := ?_) rfl (by kernel_rfl) (by kernel_rfl) (by kernel_rfl) (fun _ _ _ h => h) (Or.inl ⟨by rfl, ?_⟩) (by assumption) ?_
                  rotate_left
                  · intro Wx hSw
                    try dsimp only at hSw
                    go_simp
                    try with_reducible rfl
                  try simp only [Act.put, List.setIfInBounds_toArray, List.set_cons_zero, List.set_cons_succ]
                  refine wpAnyH_take (i := 8) (oi := { dst := some 151, op := _, type := _, pos := _, after := _, guard := _ }) (v := ?_) rfl (by kernel_rfl) (by kernel_rfl) (by kernel_rfl) (fun _ _ _ h => h) (Or.inl ⟨by rfl, ?_⟩) (by assumption) ?_
                  rotate_left
                  · intro Wx hSw
                    try dsimp only at hSw
                    go_simp
                    try with_reducible rfl
                  try simp only [Act.put, List.setIfInBounds_toArray, List.set_cons_zero, List.set_cons_succ]
                  refine wpAnyH_ready (rs := [9]) (by kernel_rfl) (by simp) (AllReadyH.cons rfl (fun KK hKK => ?_) (AllReadyH.nil))
                  have isr := HB.out.is.fr HG.out id
                  unfold Km.arr at isr
                  obtain ⟨m0, m1, m2, m3, m4, m5, m6⟩ := seven isr
                  have z0 := isr.frozen 0
                  have z1 := isr.frozen 1
                  have z2 := isr.frozen 2
                  have z3 := isr.frozen 3
                  have z4 := isr.frozen 4
                  have z5 := isr.frozen 5
                  have z6 := isr.frozen 6
                  go_simp
                  have HOn := Lib.hid ((HO.out.fr HF2.out fun _ _ => id).base HB.out.f.size)
                  have isR := (((((((isr.set 0 (.slice K2.A1 K2.own.length K2.c1)).set 1 (.slice K2.A2 K2.rts.length K2.c2)).set 2 (.slice K2.A3 K2.pts.length K2.c3)).set 3 (.slice K2.A4 K2.crs.length K2.c4)).set 4 (.slice K2.A5 K2.lns.length K2.c5)).set 5 (.slice K2.A6 K2.rss.length K2.c6)).set 6 (.bool K2.dirty))
                  have fR := ((((((((Fr.refl (fun q => q = kb) (v2)).setCell (p := ⟨kb, 0, none⟩) (.inl rfl) (.slice K2.A1 K2.own.length K2.c1)).setCell (p := ⟨kb, 1, none⟩) (.inl rfl) (.slice K2.A2 K2.rts.length K2.c2)).setCell (p := ⟨kb, 2, none⟩) (.inl rfl) (.slice K2.A3 K2.pts.length K2.c3)).setCell (p := ⟨kb, 3, none⟩) (.inl rfl) (.slice K2.A4 K2.crs.length K2.c4)).setCell (p := ⟨kb, 4, none⟩) (.inl rfl) (.slice K2.A5 K2.lns.length K2.c5)).setCell (p := ⟨kb, 5, none⟩) (.inl rfl) (.slice K2.A6 K2.rss.length K2.c6)).setCell (p := ⟨kb, 6, none⟩) (.inl rfl) (.bool K2.dirty))
                  simp only [List.setIfInBounds_toArray, List.set_cons_zero, List.set_cons_succ] at isR
                  have HBN : Hid (Bx w3 ((((((((v2).setCell ⟨kb, 0, none⟩ (.slice K2.A1 K2.own.length K2.c1)).setCell ⟨kb, 1, none⟩ (.slice K2.A2 K2.rts.length K2.c2)).setCell ⟨kb, 2, none⟩ (.slice K2.A3 K2.pts.length K2.c3)).setCell ⟨kb, 3, none⟩ (.slice K2.A4 K2.crs.length K2.c4)).setCell ⟨kb, 4, none⟩ (.slice K2.A5 K2.lns.length K2.c5)).setCell ⟨kb, 5, none⟩ (.slice K2.A6 K2.rss.length K2.c6)).setCell ⟨kb, 6, none⟩ (.bool K2.dirty)) kb K2) := Lib.hid ⟨isR, HOn.out.fr fR fun k hk e => HOn.out.ne_is isr (by decide) (by decide) (by decide) (by decide) (e ▸ hk), ((((((((fr_nil HB.out.f HG.out).setCell (p := ⟨kb, 0, none⟩) (.inr HB.out.hb) (.slice K2.A1 K2.own.length K2.c1)).setCell (p := ⟨kb, 1, none⟩) (.inr HB.out.hb) (.slice K2.A2 K2.rts.length K2.c2)).setCell (p := ⟨kb, 2, none⟩) (.inr HB.out.hb) (.slice K2.A3 K2.pts.length K2.c3)).setCell (p := ⟨kb, 3, none⟩) (.inr HB.out.hb) (.slice K2.A4 K2.crs.length K2.c4)).setCell (p := ⟨kb, 4, none⟩) (.inr HB.out.hb) (.slice K2.A5 K2.lns.length K2.c5)).setCell (p := ⟨kb, 5, none⟩) (.inr HB.out.hb) (.slice K2.A6 K2.rss.length K2.c6)).setCell (p := ⟨kb, 6, none⟩) (.inr HB.out.hb) (.bool K2.dirty)), HB.out.hb⟩
                  have HFK := Lib.hid ((HG.out.mono (S' := fun q => q = kb) fun _ _ h => h.elim).trans fR fun _ _ h => h)
                  clear isR fR isr
                  (with_reducible refine hKK.out _ _ (HS.out _ HFK.out) (fun hHeld => ?_))
                  clear hKK KK
                  clear m0 m1 m2 m3 m4 m5 m6 z0 z1 z2 z3 z4 z5 z6
                  refine wpAnyH_take (i := 10) (oi := { dst := some 7, op := _, type := _, pos := _, after := _, guard := _ }) (v := ?_) rfl (by kernel_rfl) (by kernel_rfl) (by kernel_rfl) (fun _ _ _ h => h) (Or.inl ⟨by rfl, ?_⟩) (by assumption) ?_
                  rotate_left
                  · intro Wx hSw
                    try dsimp only at hSw
                    go_simp
                    try with_reducible rfl
                  try simp only [Act.put, List.setIfInBounds_toArray, List.set_cons_zero, List.set_cons_succ]
                  refine wpAnyH_done (by kernel_rfl) ?_ _
                  go_wp2_with fail
                  go_meet
                  case rel => exact ⟨K2, rfl, HK2.out, HBN.out, HFK.out⟩
              case rest =>
                obtain ⟨K9, rfl, hk, hb, hfr⟩ := hcut
                have isw := HWB.out.fr (((Fr.refl (fun _ => False) w9).mono fun _ _ h => h.elim : Fr (fun q => q = kb) w9 w9).trans hfr fun _ _ h => h) (by have := HNE.out; omega)
                have how := HB.out.own.fr hfr fun k hk e => HB.out.no (e ▸ hk)
                have e1 : K.own = [-2, 0] := congrArg Kp.own HK.out
                have e2 : K9.own = [0, 0] := congrArg Kp.own hk
                obtain ⟨b0, b1, b2, b3, b4, b5, b6⟩ := Bk.core7 (K := K) isw
                obtain ⟨c0, c1, c2, c3, c4, c5, c6⟩ := Bk.core7 (K := K9) hb.is
                obtain ⟨g1, o1, hA1, d0⟩ := rd_int (wide_rd hb.own.own) (j := 0) (by rw [e2]; simp)
                simp only [e2, List.getElem_cons_zero, Nat.add_zero] at d0
                have KS := same_not K K9 wc (by decide) e1 e2 (wide_rd how.own) (wide_rd hb.own.own)
                have e7 : K9.dirty = true := congrArg Kp.dirty hk
                unfold Km.val Km.arr at KS
                rw [hA1, e2] at c0 KS
                rw [e7] at c6 KS
                have HFZ := Lib.hid (fr_nil HF3.out hb.f)
                clear hk hb hfr isw how e1 e2 e7 hA1 HK HB HWB
                go_wp2_with fail
                refine KS.mono ?_
                rintro _ wz ⟨rfl, fz⟩
                have HFZ := Lib.hid (fr_nil HFZ.out fz)
                clear KS fz b0 b1 b2 b3 b4 b5 b6 c0 c1 c2 c3 c4 c5 c6 d0
                go_wp2_with fail
                go_ret
                exact ⟨rfl, HFZ.out⟩
end Go.Proofs.Ytnnacdkijeoeoaa.Bk
/- BlockGrants (P15.1, P15.2): who asks gets the line's section, is told when that lasts, and has it until it is done and seen clear. For every two numbers; no condition. -/
namespace Go.Proofs.Ytnnacdkijeoeoaa.blockGrants
open Go.ChangeShapes Go.WideShapes Go.ChangeAt Go.RowKit
open Go.ChangeMaps (open_string shut_string)

set_option maxRecDepth 100000 in
theorem lifted (os : Os) (started : os.Started) (H : Type) (enc : TypeId × Value → H) :
    ReturnsInHanded {} Try.checked os 5 .any (Rows.blockGrantsSpec.pre6 enc Try.prog Try.f5 Rows.blockGrantsRow.domain false) (Rows.blockGrantsSpec.post enc Try.prog Try.f5 false true false false) := by
  refine returnsInHanded_of_change_sized (C := Try.checked) Try.own started (by kernel_rfl) Try.func5
    (ChangeSpec.witness6 (enc := enc) (C := Try.checked) false ⟨#[], #[.int .i64 0, .int .i64 0], []⟩ 8 (by kernel_rfl) (by kernel_rfl) (by kernel_rfl) (by kernel_rfl)) ?_
  intro W base args ds gs before hval0 hW hcnd0 hsz0 _
  have hval : ∀ (j : Nat) t v, Try.f5.params[j]? = some t → args[j]? = some v → Value.okWide Try.prog W .any base t v := hval0
  have hW' := hW
  obtain ⟨p, q, hA0, hV, rfl, hfz, hnd⟩ := hW
  have hA : DataW.TrodAll enc Try.prog W 0 (fun _ => true) true Try.f5.params.toList args.toList ds p := hA0
  have hsz : (DataW.weightsEach Try.prog (Try.f5.params.toList ++ Rows.blockGrantsSpec.plain.varTypes Try.prog) (ds ++ gs)).all (· ≤ reachBytes) = true := hsz0
  rw [Try.params5] at hA hval hsz
  obtain ⟨v0, v1, d0, d1, p0, p1, rfl, rfl, rfl, h0, h1⟩ := trodAll_two hA
  obtain ⟨rfl, rfl⟩ := trodVars_none hV
  obtain ⟨a0, rfl, rfl, rfl, w0⟩ := open_int Try.underlying3 (hval 0 3 v0 rfl rfl) h0
  have b0 : -9223372036854775808 ≤ a0 ∧ a0 ≤ 9223372036854775807 := by
    simp only [Lit.wf, IntKind.min, IntKind.max, IntKind.signed, IntKind.bits, Bool.and_eq_true, decide_eq_true_eq, if_true] at w0
    have := w0.1
    have := w0.2
    omega
  obtain ⟨a1, rfl, rfl, rfl, w1⟩ := open_int Try.underlying3 (hval 1 3 v1 rfl rfl) h1
  have b1 : -9223372036854775808 ≤ a1 ∧ a1 ≤ 9223372036854775807 := by
    simp only [Lit.wf, IntKind.min, IntKind.max, IntKind.signed, IntKind.bits, Bool.and_eq_true, decide_eq_true_eq, if_true] at w1
    have := w1.1
    have := w1.2
    omega
  refine (Lk.toB (Bk.grants_walk a0 a1)).mono fun e W' ⟨he, hb⟩ => ?_
  subst he
  exact law_post hW' rfl (by kernel_rfl) (by rw [Try.params5]; exact of_decide_eq_true (by kernel_rfl)) rfl rfl rfl hb

theorem proved : Rows.BlockGrantsSaid :=
  OpenClaim.holds_of_wide 5 Try.f5 rfl rfl rfl rfl rfl rfl rfl ⟨rfl, rfl, rfl, rfl, rfl⟩ rfl rfl rfl rfl rfl (by kernel_rfl) Try.func5 (by kernel_rfl)
    (of_decide_eq_true (by kernel_rfl)) (by unfold Func.isWrapper; first | (rw [if_pos (by decide +kernel)]; kernel_rfl) | (rw [if_neg (by decide +kernel)]; exact ⟨rfl, rfl⟩))
    (fun os started H enc _ => lifted os started H enc)
end Go.Proofs.Ytnnacdkijeoeoaa.blockGrants

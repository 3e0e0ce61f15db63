import Derived.Deep.RegionHeld3
import Derived.Deep.LoopGhost
import Derived.BigQuiet
import Derived.Deep.CutRange
import Derived.Test.YtginfnbdnkgjbaaGreatV5
/- The laws' first line: the chapter's example 1 (written by gen/lives14.py). -/
namespace Go.Proofs.YtginfnbdnkgjbaaGreat.Nk
open Go.RowKit Lk

theorem sm_rows {C : Cm} (h : C.cf = smF) : C.cr.length = 0 ∧ C.sg.length = 2 := by
  have e : C.cr = smF.crs := congrArg Cf.crs h
  have e2 : C.sg = smF.sigs := congrArg Cf.sigs h
  rw [e, e2]; decide
theorem box_is {v9 : World} {zb : Nat} {x0 x1 x2 x3 x4 x5 x6 : Value} (isr : Is v9 zb 35 #[x0, x1, x2, x3, x4, x5, x6]) (K2 : Km) : ∃ W, (((((((v9.setCell ⟨zb, 0, none⟩ (.slice K2.A1 K2.own.length K2.c1)).setCell ⟨zb, 1, none⟩ (.slice K2.A2 K2.rts.length K2.c2)).setCell ⟨zb, 2, none⟩ (.slice K2.A3 K2.pts.length K2.c3)).setCell ⟨zb, 3, none⟩ (.slice K2.A4 K2.crs.length K2.c4)).setCell ⟨zb, 4, none⟩ (.slice K2.A5 K2.lns.length K2.c5)).setCell ⟨zb, 5, none⟩ (.slice K2.A6 K2.rss.length K2.c6)).setCell ⟨zb, 6, none⟩ (.bool K2.dirty)) = W ∧ Is W zb 35 K2.arr ∧ Fr (fun q => q = zb) v9 W := by
  have isR := (((((((isr.set 0 (.slice K2.A1 K2.own.length K2.c1)).set 1 (.slice K2.A2 K2.rts.length K2.c2)).set 2 (.slice K2.A3 K2.pts.length K2.c3)).set 3 (.slice K2.A4 K2.crs.length K2.c4)).set 4 (.slice K2.A5 K2.lns.length K2.c5)).set 5 (.slice K2.A6 K2.rss.length K2.c6)).set 6 (.bool K2.dirty))
  have fR := ((((((((Fr.refl (fun q => q = zb) v9).setCell (p := ⟨zb, 0, none⟩) (.inl rfl) (.slice K2.A1 K2.own.length K2.c1)).setCell (p := ⟨zb, 1, none⟩) (.inl rfl) (.slice K2.A2 K2.rts.length K2.c2)).setCell (p := ⟨zb, 2, none⟩) (.inl rfl) (.slice K2.A3 K2.pts.length K2.c3)).setCell (p := ⟨zb, 3, none⟩) (.inl rfl) (.slice K2.A4 K2.crs.length K2.c4)).setCell (p := ⟨zb, 4, none⟩) (.inl rfl) (.slice K2.A5 K2.lns.length K2.c5)).setCell (p := ⟨zb, 5, none⟩) (.inl rfl) (.slice K2.A6 K2.rss.length K2.c6)).setCell (p := ⟨zb, 6, none⟩) (.inl rfl) (.bool K2.dirty))
  simp only [List.setIfInBounds_toArray, List.set_cons_zero, List.set_cons_succ] at isR
  exact ⟨_, rfl, isR, fR⟩
set_option maxRecDepth 100000 in
set_option maxHeartbeats 16000000 in
theorem lives14_any (w : World) : Calls Tryz.prog 38 #[] w fun e w' => e = .returned (.bool true) ∧ Fr (fun _ => False) w w' := by
  go_enter Tryz.func38, Tryz.ntmps38
  go_wp2_with fail
  refine (station14_ex _).mono ?_
  rintro _ w1 ⟨C, rfl, hcf, hC, f1⟩
  have HIC := Lib.hid (Is.new w1 30 C.arr)
  have HF := Lib.hid (f1.alloc (.cells C.arr 30))
  have HC := Lib.hid (hC.fr ((Fr.refl (fun _ => False) w1).alloc (.cells C.arr 30)))
  have HCF := Lib.hid hcf
  clear f1 hC hcf
  unfold Cm.val Cm.arr at *
  go_upto_region 2 with fail
  generalize w1.alloc _ = w2 at *
  generalize w1.heap.size = cb at *
  have KN := new_any w2 HC.out (sm_cr HCF.out) 0
  obtain ⟨p0, p1, p2, p3, p4, p5, p6, p7, p8⟩ := conf_cells0 HIC.out
  unfold Cm.val Cm.arr at KN
  go_wp2_with fail
  refine KN.mono ?_
  rintro _ w3 ⟨K, rfl, hk, ho, f2⟩
  have HKP : Hid (K.kp = newM smF 0) := Lib.hid (hk.trans (by rw [HCF.out]))
  have HBX := Lib.hid (bx_made ho f2)
  clear hk ho f2 KN p0 p1 p2 p3 p4 p5 p6 p7 p8
  unfold Km.val Km.arr
  go_upto_region 3 with fail
  generalize hw3 : World.alloc _ _ = w4 at *
  generalize w3.heap.size = kb at *
  clear hw3
  have hlen : K.own.length = 5 := by rw [show K.own = (newM smF 0).own from congrArg Kp.own HKP.out]; rfl
  have HLEN := Lib.hid hlen
  have c0 : w4.cell? ⟨kb, 0, none⟩ = some (.slice K.A1 K.own.length K.c1) := HBX.out.is.cell 0
  have HE0 : Hid (K.own = fillP freeM (-1) K.own 0) := Lib.hid (by
    have h : K.own = (newM smF 0).own := congrArg Kp.own HKP.out
    rw [h]; rfl)
  rw [hlen] at c0
  clear hlen
  go_wp2_with fail
  clear c0
  go_loopg [16] 5 (fun gi v16 wr => ∃ (j : Nat), j ≤ 5 ∧ gi = 5 - j ∧ v16 = .int .i64 (j : Nat) ∧ Bx w2 wr kb { K with own := fillP freeM (-1) K.own j })
  case atStart => exact ⟨0, Nat.zero_le _, rfl, rfl, by rw [← HE0.out]; exact HBX.out⟩
  case round =>
    clear HBX
    obtain ⟨k, hk, rfl, rfl, hbx⟩ := hrel
    have HZ := Lib.hid hbx
    clear hbx
    by_cases hlt : k < 5
    · have hlk : k < K.own.length := by rw [HLEN.out]; exact hlt
      obtain ⟨g, hA0, -, -⟩ := own_some HZ.out.own.own (by show 0 < (fillP _ _ _ _).length; rw [fillP_len _ _ _ _ (by omega)]; omega)
      have hA : K.A1 = some ⟨g, 0, none⟩ := hA0
      obtain ⟨HVN, c0, ⟨u, cu⟩, zu⟩ := bx_own1 HZ.out hA hlk
      rw [HLEN.out] at c0
      have i1 : (0 : Int) ≤ (k : Int) := by omega
      have i2 : (k : Int) < 5 := by omega
      have HLT := Lib.hid hlt
      clear hA0 hA HE0 hlk hlt hk
      go_wp2_with fail
      go_roundg (5 - (k + 1))
      case measure => have := HLT.out; omega
      case rel => exact ⟨k + 1, HLT.out, rfl, by go_num, HVN.out⟩
    · have hkn : k = 5 := by omega
      subst hkn
      have HV0 : Hid (Bx w2 wr kb { K with own := K.own.map freeM }) := Lib.hid (by
        have := HZ.out
        rw [fillP_all _ _ _ _ (by rw [HLEN.out]; exact Nat.le_refl _)] at this
        exact this)
      have HQ : Hid (({ K with own := K.own.map freeM } : Km).kp = openM smF) := Lib.hid (by
        have h := HKP.out
        unfold Km.kp newM at h
        simp only [Kp.mk.injEq] at h
        obtain ⟨h1, h2, h3, h4, h5, h6, h7⟩ := h
        unfold Km.kp openM newM
        simp only [Kp.mk.injEq]
        refine ⟨?_, h2, h3, h4, h5, h6, h7⟩
        rw [h1, List.map_map]
        rfl)
      clear hlt hk HZ HKP HE0 HLEN
      generalize ({ K with own := K.own.map freeM } : Km) = K3 at HQ HV0
      have HB3 := HV0
      clear HV0
      have HIC3 := Lib.hid (HIC.out.fr HB3.out.f id)
      have HC3 := Lib.hid (HC.out.fr HB3.out.f)
      have KR := call_Request_fit C K3 wr HC3.out (fit_ok HB3.out.own (by rw [HQ.out]; exact ex_fit)) 5 0
      rw [HQ.out, HCF.out, ex_req] at KR
      obtain ⟨p0, p1, p2, p3, p4, p5, p6, p7, p8⟩ := conf_cells0 HIC3.out
      obtain ⟨k0, k1, k2, k3, k4, k5, k6⟩ := core_cells (K := K3) HB3.out.is
      unfold Cm.val Cm.arr Km.val Km.arr at KR
      go_wp2_with fail
      refine KR.mono ?_
      rintro _ w5 ⟨K4, rfl, hk4, ho4, f4⟩
      have isr := HB3.out.is.fr f4 id
      unfold Km.arr at isr
      obtain ⟨m0, m1, m2, m3, m4, m5, m6⟩ := seven isr
      have z0 := isr.frozen 0
      have z1 := isr.frozen 1
      have z2 := isr.frozen 2
      have z3 := isr.frozen 3
      have z4 := isr.frozen 4
      have z5 := isr.frozen 5
      have z6 := isr.frozen 6
      obtain ⟨W, hW, hiW, fW⟩ := box_is isr K4
      have hlek := HB3.out.f.size
      have hB4 : Bx w2 W kb K4 := ⟨hiW, ((ho4.base hlek).fr fW fun k hk e => ho4.ne_is isr (by decide) (by decide) (by decide) (by decide) (e ▸ hk)), (fr_nil HB3.out.f f4).trans fW fun k hk e => by have := HB3.out.hb; omega, HB3.out.hb⟩
      have HB4 := Lib.hid hB4
      have HK4 := Lib.hid hk4
      have HW := Lib.hid hW
      clear KR p0 p1 p2 p3 p4 p5 p6 p7 p8 k0 k1 k2 k3 k4 k5 k6 hW hiW fW hlek hB4 hk4 ho4 f4 isr
      unfold Km.val Km.arr
      go_upto_region 9 with fail
      rw [HW.out]
      clear m0 m1 m2 m3 m4 m5 m6 z0 z1 z2 z3 z4 z5 z6
      have c6 : W.cell? ⟨kb, 6, none⟩ = some (.bool K4.dirty) := HB4.out.is.cell 6
      have z6 := HB4.out.is.frozen 6
      have hB5 := HB4.out.dirt false
      go_upto_region 12 with fail
      generalize W.setCell _ _ = w8 at *
      clear c6 z6
      have HK5 : Hid (({ K4 with dirty := false } : Km).kp = exR false) := Lib.hid (by
        have h := HK4.out
        unfold Km.kp exR at h ⊢
        simp only [Kp.mk.injEq] at h ⊢
        exact ⟨h.1, h.2.1, h.2.2.1, h.2.2.2.1, h.2.2.2.2.1, h.2.2.2.2.2.1, trivial⟩)
      generalize ({ K4 with dirty := false } : Km) = K5 at *
      have HBK := Lib.hid hB5
      have hfk := HB3.out.f
      have HIC := Lib.hid (HIC.out.fr hB5.f id)
      have HC := Lib.hid (HC.out.fr hB5.f)
      have HF8 := Lib.hid (fr_nil HF.out hB5.f)
      have HOK : Hid (∀ W, Fr (fun _ => False) w8 W → K5.Ok W) := Lib.hid fun W f => fit_ok (HBK.out.own.fr f fun _ _ => id) (by rw [HK5.out]; exact ex_fitR)
      have hsmr := sm_rows HCF.out
      have HSM := Lib.hid hsmr
      clear hB5 hfk hsmr HB3 HIC3 HC3 HB4 HK4 HW HQ
      go_cut [4, 5, 6] from 33 (fun ve va vl wx => ∃ (nb : Nat) (K2 : Km) (A2 : Option Addr) (c2 : Nat), va = .pointer (some ⟨nb, 0, none⟩) ∧ vl = .slice A2 2 c2 ∧ ve = .int .i64 0 ∧ K2.kp = exO 2 ∧ Bx w8 wx nb K2 ∧ wx.ownsRow w8.heap.size 3 1 (.slice A2 2 c2) 2 (([2, 0] : List Int).map (Value.int .i64)))
      case first =>
        have KS := fun (W : World) (f : Fr (fun _ => False) w8 W) => seen_any (HC.out.fr f) 8 (by rw [HSM.out.1]; decide) (by rw [HSM.out.2]; decide)
        have KT := fun (V9 : Vm) (hv : V9.vp = seenM C.cf 8) (W : World) (f : Fr (fun _ => False) w8 W) (h9 : V9.Ok W) => step_any (HC.out.fr f) (HOK.out W f) h9 8
        have KT : ∀ (V9 : Vm), V9.vp = seenM C.cf 8 → ∀ W, Fr (fun _ => False) w8 W → V9.Ok W → Calls Tryz.prog 39 #[.agg #[.slice C.A1 C.l.length C.c1, .slice C.A2 C.js.length C.c2, .slice C.A3 C.sg.length C.c3, .slice C.A4 C.cr.length C.c4, .slice C.A5 C.rs.length C.c5, .int .i64 C.tm.age, .int .i64 C.tm.brake, .int .i64 C.tm.hold, .int .i64 C.tm.budget], .agg #[.slice K5.A1 K5.own.length K5.c1, .slice K5.A2 K5.rts.length K5.c2, .slice K5.A3 K5.pts.length K5.c3, .slice K5.A4 K5.crs.length K5.c4, .slice K5.A5 K5.lns.length K5.c5, .slice K5.A6 K5.rss.length K5.c6, .bool K5.dirty], V9.val, .int .i64 8] W (StepE W (exO 2, [2, 0], 0)) := fun V9 hv W f h9 => by
          have := KT V9 hv W f h9
          rw [hv, HCF.out, HK5.out, ex_step8] at this
          exact this
        unfold Cm.val Cm.arr at KS
        have HS : Hid (∀ W, Fr (fun _ => False) w8 W → (fun Wx => Wx.cell? ⟨cb, 0, none⟩ = some (.slice C.A1 C.l.length C.c1) ∧ Wx.cell? ⟨cb, 1, none⟩ = some (.slice C.A2 C.js.length C.c2) ∧ Wx.cell? ⟨cb, 2, none⟩ = some (.slice C.A3 C.sg.length C.c3) ∧ Wx.cell? ⟨cb, 3, none⟩ = some (.slice C.A4 C.cr.length C.c4) ∧ Wx.cell? ⟨cb, 4, none⟩ = some (.slice C.A5 C.rs.length C.c5) ∧ Wx.cell? ⟨cb, 5, none⟩ = some (.int .i64 C.tm.age) ∧ Wx.cell? ⟨cb, 6, none⟩ = some (.int .i64 C.tm.brake) ∧ Wx.cell? ⟨cb, 7, none⟩ = some (.int .i64 C.tm.hold) ∧ Wx.cell? ⟨cb, 8, none⟩ = some (.int .i64 C.tm.budget) ∧ Wx.cell? ⟨kb, 0, none⟩ = some (.slice K5.A1 K5.own.length K5.c1) ∧ Wx.cell? ⟨kb, 1, none⟩ = some (.slice K5.A2 K5.rts.length K5.c2) ∧ Wx.cell? ⟨kb, 2, none⟩ = some (.slice K5.A3 K5.pts.length K5.c3) ∧ Wx.cell? ⟨kb, 3, none⟩ = some (.slice K5.A4 K5.crs.length K5.c4) ∧ Wx.cell? ⟨kb, 4, none⟩ = some (.slice K5.A5 K5.lns.length K5.c5) ∧ Wx.cell? ⟨kb, 5, none⟩ = some (.slice K5.A6 K5.rss.length K5.c6) ∧ Wx.cell? ⟨kb, 6, none⟩ = some (.bool K5.dirty)) W) := Lib.hid fun W fW => by
          obtain ⟨a0, a1, a2, a3, a4, a5, a6, a7, a8⟩ := conf_cells0 (HIC.out.fr fW id)
          obtain ⟨b0, b1, b2, b3, b4, b5, b6⟩ := core_cells (K := K5) (HBK.out.is.fr fW id)
          exact ⟨a0, a1, a2, a3, a4, a5, a6, a7, a8, b0, b1, b2, b3, b4, b5, b6⟩
        have HG := Lib.hid (Fr.refl (fun _ => False) w8).drew
        refine wp_region_held_drew (S := (fun Wx => Wx.cell? ⟨cb, 0, none⟩ = some (.slice C.A1 C.l.length C.c1) ∧ Wx.cell? ⟨cb, 1, none⟩ = some (.slice C.A2 C.js.length C.c2) ∧ Wx.cell? ⟨cb, 2, none⟩ = some (.slice C.A3 C.sg.length C.c3) ∧ Wx.cell? ⟨cb, 3, none⟩ = some (.slice C.A4 C.cr.length C.c4) ∧ Wx.cell? ⟨cb, 4, none⟩ = some (.slice C.A5 C.rs.length C.c5) ∧ Wx.cell? ⟨cb, 5, none⟩ = some (.int .i64 C.tm.age) ∧ Wx.cell? ⟨cb, 6, none⟩ = some (.int .i64 C.tm.brake) ∧ Wx.cell? ⟨cb, 7, none⟩ = some (.int .i64 C.tm.hold) ∧ Wx.cell? ⟨cb, 8, none⟩ = some (.int .i64 C.tm.budget) ∧ Wx.cell? ⟨kb, 0, none⟩ = some (.slice K5.A1 K5.own.length K5.c1) ∧ Wx.cell? ⟨kb, 1, none⟩ = some (.slice K5.A2 K5.rts.length K5.c2) ∧ Wx.cell? ⟨kb, 2, none⟩ = some (.slice K5.A3 K5.pts.length K5.c3) ∧ Wx.cell? ⟨kb, 3, none⟩ = some (.slice K5.A4 K5.crs.length K5.c4) ∧ Wx.cell? ⟨kb, 4, none⟩ = some (.slice K5.A5 K5.lns.length K5.c5) ∧ Wx.cell? ⟨kb, 5, none⟩ = some (.slice K5.A6 K5.rss.length K5.c6) ∧ Wx.cell? ⟨kb, 6, none⟩ = some (.bool K5.dirty))) (by kernel_rfl) (HS.out _ (Fr.refl _ w8).drew) (fun hHeld => ?_)
        generalize w8.drew = wdr at *
        refine wpAnyH_take (i := 0) (oi := { dst := some 34, op := _, type := _, pos := _, after := _, guard := _ }) (v := ?_) rfl (by kernel_rfl) (by kernel_rfl) (by kernel_rfl) (fun _ _ _ h => h) (Or.inl ⟨by rfl, ?_⟩) (by assumption) ?_
        rotate_left
        · intro Wx hSw
          try dsimp only at hSw
          go_simp
          try with_reducible rfl
        try simp only [Act.put, List.setIfInBounds_toArray, List.set_cons_zero, List.set_cons_succ]
        refine wpAnyH_take (i := 1) (oi := { dst := some 35, op := _, type := _, pos := _, after := _, guard := _ }) (v := ?_) rfl (by kernel_rfl) (by kernel_rfl) (by kernel_rfl) (fun _ _ _ h => h) (Or.inl ⟨by rfl, ?_⟩) (by assumption) ?_
        rotate_left
        · intro Wx hSw
          try dsimp only at hSw
          go_simp
          try with_reducible rfl
        try simp only [Act.put, List.setIfInBounds_toArray, List.set_cons_zero, List.set_cons_succ]
        refine wpAnyH_take (i := 2) (oi := { dst := some 36, op := _, type := _, pos := _, after := _, guard := _ }) (v := ?_) rfl (by kernel_rfl) (by kernel_rfl) (by kernel_rfl) (fun _ _ _ h => h) (Or.inl ⟨by rfl, ?_⟩) (by assumption) ?_
        rotate_left
        · intro Wx hSw
          try dsimp only at hSw
          go_simp
          try with_reducible rfl
        try simp only [Act.put, List.setIfInBounds_toArray, List.set_cons_zero, List.set_cons_succ]
        refine wpAnyH_ready (rs := [3, 9]) (by kernel_rfl) (by simp) (AllReadyH.cons rfl (fun KK hKK => ?_) (AllReadyH.cons rfl (fun KK hKK => ?_) (AllReadyH.nil)))
        · go_simp
          refine (KS _ HG.out).mono ?_
          rintro _ va ⟨V9, vb9, rfl, hvp, hsv⟩
          have HVP := Lib.hid hvp
          have HV := Lib.hid hsv.ok
          have fa := hsv.f
          have HG := Lib.hid (fr_nil HG.out fa)
          have KT := KT V9 hvp
          unfold Vm.val Vm.arr at KT ⊢
          clear fa hvp hsv
          refine hKK.out _ _ (HS.out _ HG.out) (fun hHeld => ?_)
          clear hKK KK
          refine wpAnyH_ready (rs := [4, 9]) (by kernel_rfl) (by simp) (AllReadyH.cons rfl (fun KK hKK => ?_) (AllReadyH.cons rfl (fun KK hKK => ?_) (AllReadyH.nil)))
          · go_simp
            refine (KT _ HG.out HV.out).mono ?_
            rintro _ vb ⟨K2, A2, c2, rfl, hk2, ho2, hr2, fb⟩
            have HK2 := Lib.hid hk2
            have HO := Lib.hid (ho2.base HG.out.size)
            have HR := Lib.hid (own_base hr2 HG.out.size)
            have HG := Lib.hid (fr_nil HG.out fb)
            clear fb hk2 ho2 hr2 KT
            dsimp only at HR ⊢
            unfold Km.val Km.arr
            refine hKK.out _ _ (HS.out _ HG.out) (fun hHeld => ?_)
            clear hKK KK
            refine wpAnyH_take (i := 5) (oi := { dst := some 33, op := _, type := _, pos := _, after := _, guard := _ }) (v := ?_) rfl (by kernel_rfl) (by kernel_rfl) (by kernel_rfl) (fun _ _ _ h => h) (Or.inl ⟨by rfl, ?_⟩) (by assumption) ?_
            rotate_left
            · intro Wx hSw
              try dsimp only at hSw
              go_simp
              try with_reducible rfl
            try simp only [Act.put, List.setIfInBounds_toArray, List.set_cons_zero, List.set_cons_succ]
            refine wpAnyH_take (i := 6) (oi := { dst := some 39, op := _, type := _, pos := _, after := _, guard := _ }) (v := ?_) rfl (by kernel_rfl) (by kernel_rfl) (by kernel_rfl) (fun _ _ _ h => h) (Or.inl ⟨by rfl, ?_⟩) (by assumption) ?_
            rotate_left
            · intro Wx hSw
              try dsimp only at hSw
              go_simp
              try with_reducible rfl
            try simp only [Act.put, List.setIfInBounds_toArray, List.set_cons_zero, List.set_cons_succ]
            refine wpAnyH_take (i := 7) (oi := { dst := some 40, op := _, type := _, pos := _, after := _, guard := _ }) (v := ?_) rfl (by kernel_rfl) (by kernel_rfl) (by kernel_rfl) (fun _ _ _ h => h) (Or.inl ⟨by rfl, ?_⟩) (by assumption) ?_
            rotate_left
            · intro Wx hSw
              try dsimp only at hSw
              go_simp
              try with_reducible rfl
            try simp only [Act.put, List.setIfInBounds_toArray, List.set_cons_zero, List.set_cons_succ]
            refine wpAnyH_take (i := 8) (oi := { dst := some 41, op := _, type := _, pos := _, after := _, guard := _ }) (v := ?_) rfl (by kernel_rfl) (by kernel_rfl) (by kernel_rfl) (fun _ _ _ h => h) (Or.inl ⟨by rfl, ?_⟩) (by assumption) ?_
            rotate_left
            · intro Wx hSw
              try dsimp only at hSw
              go_simp
              try with_reducible rfl
            try simp only [Act.put, List.setIfInBounds_toArray, List.set_cons_zero, List.set_cons_succ]
            refine wpAnyH_ready (rs := [9]) (by kernel_rfl) (by simp) (AllReadyH.cons rfl (fun KK hKK => ?_) (AllReadyH.nil))
            go_simp
            have HI := Lib.hid (Is.new (vb) 35 #[.slice none 0 0, .slice none 0 0, .slice none 0 0, .slice none 0 0, .slice none 0 0, .slice none 0 0, .bool false])
            have HNB : Hid (w8.heap.size ≤ (vb).heap.size) := Lib.hid HG.out.size
            have HG9 := HG
            have HG := Lib.hid (HG.out.alloc (.cells #[.slice none 0 0, .slice none 0 0, .slice none 0 0, .slice none 0 0, .slice none 0 0, .slice none 0 0, .bool false] 35))
            have HO9 := HO
            have HR9 := HR
            have HO := Lib.hid (HO.out.fr ((Fr.refl (fun _ => False) (vb)).alloc (.cells #[.slice none 0 0, .slice none 0 0, .slice none 0 0, .slice none 0 0, .slice none 0 0, .slice none 0 0, .bool false] 35)) fun _ _ => id)
            have HR := Lib.hid (wide_fr HR.out ((Fr.refl (fun _ => False) (vb)).alloc (.cells #[.slice none 0 0, .slice none 0 0, .slice none 0 0, .slice none 0 0, .slice none 0 0, .slice none 0 0, .bool false] 35)) fun _ _ => id)
            refine hKK.out _ _ (HS.out _ HG.out) (fun hHeld => ?_)
            clear hKK KK
            refine wpAnyH_ready (rs := [10]) (by kernel_rfl) (by simp) (AllReadyH.cons rfl (fun KK hKK => ?_) (AllReadyH.nil))
            go_simp
            have isr := HI.out
            obtain ⟨m0, m1, m2, m3, m4, m5, m6⟩ := seven isr
            have HBN : Hid (Bx w8 ((vb).alloc (.cells #[.slice K2.A1 K2.own.length K2.c1, .slice K2.A2 K2.rts.length K2.c2, .slice K2.A3 K2.pts.length K2.c3, .slice K2.A4 K2.crs.length K2.c4, .slice K2.A5 K2.lns.length K2.c5, .slice K2.A6 K2.rss.length K2.c6, .bool K2.dirty] 35)) (vb).heap.size K2) := Lib.hid ⟨Is.new _ _ _, HO9.out.fr ((Fr.refl _ _).alloc _) fun _ _ => id, HG9.out.alloc _, HNB.out⟩
            have HRN := Lib.hid (wide_fr HR9.out ((Fr.refl (fun _ => False) _).alloc (.cells #[.slice K2.A1 K2.own.length K2.c1, .slice K2.A2 K2.rts.length K2.c2, .slice K2.A3 K2.pts.length K2.c3, .slice K2.A4 K2.crs.length K2.c4, .slice K2.A5 K2.lns.length K2.c5, .slice K2.A6 K2.rss.length K2.c6, .bool K2.dirty] 35)) fun _ _ => id)
            clear isr
            (with_reducible refine hKK.out _ _ (HS.out _ HBN.out.f) (fun hHeld => ?_))
            clear hKK KK m0 m1 m2 m3 m4 m5 m6
            refine wpAnyH_take (i := 11) (oi := { dst := some 6, op := _, type := _, pos := _, after := _, guard := _ }) (v := ?_) rfl (by kernel_rfl) (by kernel_rfl) (by kernel_rfl) (fun _ _ _ h => h) (Or.inl ⟨by rfl, ?_⟩) (by assumption) ?_
            rotate_left
            · intro Wx hSw
              try dsimp only at hSw
              go_simp
              try with_reducible rfl
            try simp only [Act.put, List.setIfInBounds_toArray, List.set_cons_zero, List.set_cons_succ]
            refine wpAnyH_take (i := 12) (oi := { dst := some 4, op := _, type := _, pos := _, after := _, guard := _ }) (v := ?_) rfl (by kernel_rfl) (by kernel_rfl) (by kernel_rfl) (fun _ _ _ h => h) (Or.inl ⟨by rfl, ?_⟩) (by assumption) ?_
            rotate_left
            · intro Wx hSw
              try dsimp only at hSw
              go_simp
              try with_reducible rfl
            try simp only [Act.put, List.setIfInBounds_toArray, List.set_cons_zero, List.set_cons_succ]
            refine wpAnyH_done (by kernel_rfl) ?_ _
            go_wp2_with fail
            go_meet
            case rel => exact ⟨_, K2, A2, c2, rfl, rfl, rfl, HK2.out, HBN.out, HRN.out⟩
          · go_simp
            have HI := Lib.hid (Is.new (va) 35 #[.slice none 0 0, .slice none 0 0, .slice none 0 0, .slice none 0 0, .slice none 0 0, .slice none 0 0, .bool false])
            have HNB : Hid (w8.heap.size ≤ (va).heap.size) := Lib.hid HG.out.size
            have HG9 := HG
            have HG := Lib.hid (HG.out.alloc (.cells #[.slice none 0 0, .slice none 0 0, .slice none 0 0, .slice none 0 0, .slice none 0 0, .slice none 0 0, .bool false] 35))
            have HV := Lib.hid (HV.out.fr ((Fr.refl (fun _ => False) (va)).alloc (.cells #[.slice none 0 0, .slice none 0 0, .slice none 0 0, .slice none 0 0, .slice none 0 0, .slice none 0 0, .bool false] 35)))
            refine hKK.out _ _ (HS.out _ HG.out) (fun hHeld => ?_)
            clear hKK KK
            refine wpAnyH_ready (rs := [4]) (by kernel_rfl) (by simp) (AllReadyH.cons rfl (fun KK hKK => ?_) (AllReadyH.nil))
            go_simp
            refine (KT _ HG.out HV.out).mono ?_
            rintro _ vb ⟨K2, A2, c2, rfl, hk2, ho2, hr2, fb⟩
            have HK2 := Lib.hid hk2
            have HO := Lib.hid (ho2.base HG.out.size)
            have HR := Lib.hid (own_base hr2 HG.out.size)
            have HG := Lib.hid (fr_nil HG.out fb)
            have HI := Lib.hid (HI.out.fr fb id)
            clear fb hk2 ho2 hr2 KT
            dsimp only at HR ⊢
            unfold Km.val Km.arr
            refine hKK.out _ _ (HS.out _ HG.out) (fun hHeld => ?_)
            clear hKK KK
            refine wpAnyH_take (i := 5) (oi := { dst := some 33, op := _, type := _, pos := _, after := _, guard := _ }) (v := ?_) rfl (by kernel_rfl) (by kernel_rfl) (by kernel_rfl) (fun _ _ _ h => h) (Or.inl ⟨by rfl, ?_⟩) (by assumption) ?_
            rotate_left
            · intro Wx hSw
              try dsimp only at hSw
              go_simp
              try with_reducible rfl
            try simp only [Act.put, List.setIfInBounds_toArray, List.set_cons_zero, List.set_cons_succ]
            refine wpAnyH_take (i := 6) (oi := { dst := some 39, op := _, type := _, pos := _, after := _, guard := _ }) (v := ?_) rfl (by kernel_rfl) (by kernel_rfl) (by kernel_rfl) (fun _ _ _ h => h) (Or.inl ⟨by rfl, ?_⟩) (by assumption) ?_
            rotate_left
            · intro Wx hSw
              try dsimp only at hSw
              go_simp
              try with_reducible rfl
            try simp only [Act.put, List.setIfInBounds_toArray, List.set_cons_zero, List.set_cons_succ]
            refine wpAnyH_take (i := 7) (oi := { dst := some 40, op := _, type := _, pos := _, after := _, guard := _ }) (v := ?_) rfl (by kernel_rfl) (by kernel_rfl) (by kernel_rfl) (fun _ _ _ h => h) (Or.inl ⟨by rfl, ?_⟩) (by assumption) ?_
            rotate_left
            · intro Wx hSw
              try dsimp only at hSw
              go_simp
              try with_reducible rfl
            try simp only [Act.put, List.setIfInBounds_toArray, List.set_cons_zero, List.set_cons_succ]
            refine wpAnyH_take (i := 8) (oi := { dst := some 41, op := _, type := _, pos := _, after := _, guard := _ }) (v := ?_) rfl (by kernel_rfl) (by kernel_rfl) (by kernel_rfl) (fun _ _ _ h => h) (Or.inl ⟨by rfl, ?_⟩) (by assumption) ?_
            rotate_left
            · intro Wx hSw
              try dsimp only at hSw
              go_simp
              try with_reducible rfl
            try simp only [Act.put, List.setIfInBounds_toArray, List.set_cons_zero, List.set_cons_succ]
            refine wpAnyH_ready (rs := [10]) (by kernel_rfl) (by simp) (AllReadyH.cons rfl (fun KK hKK => ?_) (AllReadyH.nil))
            have isr := HI.out
            obtain ⟨m0, m1, m2, m3, m4, m5, m6⟩ := seven isr
            have z0 := isr.frozen 0
            have z1 := isr.frozen 1
            have z2 := isr.frozen 2
            have z3 := isr.frozen 3
            have z4 := isr.frozen 4
            have z5 := isr.frozen 5
            have z6 := isr.frozen 6
            go_simp
            have isR := (((((((isr.set 0 (.slice K2.A1 K2.own.length K2.c1)).set 1 (.slice K2.A2 K2.rts.length K2.c2)).set 2 (.slice K2.A3 K2.pts.length K2.c3)).set 3 (.slice K2.A4 K2.crs.length K2.c4)).set 4 (.slice K2.A5 K2.lns.length K2.c5)).set 5 (.slice K2.A6 K2.rss.length K2.c6)).set 6 (.bool K2.dirty))
            have fR := ((((((((Fr.refl (fun q => q = (va).heap.size) (vb)).setCell (p := ⟨(va).heap.size, 0, none⟩) (.inl rfl) (.slice K2.A1 K2.own.length K2.c1)).setCell (p := ⟨(va).heap.size, 1, none⟩) (.inl rfl) (.slice K2.A2 K2.rts.length K2.c2)).setCell (p := ⟨(va).heap.size, 2, none⟩) (.inl rfl) (.slice K2.A3 K2.pts.length K2.c3)).setCell (p := ⟨(va).heap.size, 3, none⟩) (.inl rfl) (.slice K2.A4 K2.crs.length K2.c4)).setCell (p := ⟨(va).heap.size, 4, none⟩) (.inl rfl) (.slice K2.A5 K2.lns.length K2.c5)).setCell (p := ⟨(va).heap.size, 5, none⟩) (.inl rfl) (.slice K2.A6 K2.rss.length K2.c6)).setCell (p := ⟨(va).heap.size, 6, none⟩) (.inl rfl) (.bool K2.dirty))
            simp only [List.setIfInBounds_toArray, List.set_cons_zero, List.set_cons_succ] at isR
            have HBN : Hid (Bx w8 ((((((((vb).setCell ⟨(va).heap.size, 0, none⟩ (.slice K2.A1 K2.own.length K2.c1)).setCell ⟨(va).heap.size, 1, none⟩ (.slice K2.A2 K2.rts.length K2.c2)).setCell ⟨(va).heap.size, 2, none⟩ (.slice K2.A3 K2.pts.length K2.c3)).setCell ⟨(va).heap.size, 3, none⟩ (.slice K2.A4 K2.crs.length K2.c4)).setCell ⟨(va).heap.size, 4, none⟩ (.slice K2.A5 K2.lns.length K2.c5)).setCell ⟨(va).heap.size, 5, none⟩ (.slice K2.A6 K2.rss.length K2.c6)).setCell ⟨(va).heap.size, 6, none⟩ (.bool K2.dirty)) (va).heap.size K2) := Lib.hid ⟨isR, HO.out.fr fR fun k hk e => HO.out.ne_is isr (by decide) (by decide) (by decide) (by decide) (e ▸ hk), (((((((HG.out.setCell (p := ⟨(va).heap.size, 0, none⟩) (.inr HNB.out) (.slice K2.A1 K2.own.length K2.c1)).setCell (p := ⟨(va).heap.size, 1, none⟩) (.inr HNB.out) (.slice K2.A2 K2.rts.length K2.c2)).setCell (p := ⟨(va).heap.size, 2, none⟩) (.inr HNB.out) (.slice K2.A3 K2.pts.length K2.c3)).setCell (p := ⟨(va).heap.size, 3, none⟩) (.inr HNB.out) (.slice K2.A4 K2.crs.length K2.c4)).setCell (p := ⟨(va).heap.size, 4, none⟩) (.inr HNB.out) (.slice K2.A5 K2.lns.length K2.c5)).setCell (p := ⟨(va).heap.size, 5, none⟩) (.inr HNB.out) (.slice K2.A6 K2.rss.length K2.c6)).setCell (p := ⟨(va).heap.size, 6, none⟩) (.inr HNB.out) (.bool K2.dirty)), HNB.out⟩
            have HRN := Lib.hid (wide_fr HR.out fR fun q hq e => wide_is_ne HR.out isr (by decide) (by subst e; exact hq))
            clear isR fR isr
            (with_reducible refine hKK.out _ _ (HS.out _ HBN.out.f) (fun hHeld => ?_))
            clear hKK KK m0 m1 m2 m3 m4 m5 m6 z0 z1 z2 z3 z4 z5 z6
            refine wpAnyH_take (i := 11) (oi := { dst := some 6, op := _, type := _, pos := _, after := _, guard := _ }) (v := ?_) rfl (by kernel_rfl) (by kernel_rfl) (by kernel_rfl) (fun _ _ _ h => h) (Or.inl ⟨by rfl, ?_⟩) (by assumption) ?_
            rotate_left
            · intro Wx hSw
              try dsimp only at hSw
              go_simp
              try with_reducible rfl
            try simp only [Act.put, List.setIfInBounds_toArray, List.set_cons_zero, List.set_cons_succ]
            refine wpAnyH_take (i := 12) (oi := { dst := some 4, op := _, type := _, pos := _, after := _, guard := _ }) (v := ?_) rfl (by kernel_rfl) (by kernel_rfl) (by kernel_rfl) (fun _ _ _ h => h) (Or.inl ⟨by rfl, ?_⟩) (by assumption) ?_
            rotate_left
            · intro Wx hSw
              try dsimp only at hSw
              go_simp
              try with_reducible rfl
            try simp only [Act.put, List.setIfInBounds_toArray, List.set_cons_zero, List.set_cons_succ]
            refine wpAnyH_done (by kernel_rfl) ?_ _
            go_wp2_with fail
            go_meet
            case rel => exact ⟨_, K2, A2, c2, rfl, rfl, rfl, HK2.out, HBN.out, HRN.out⟩
        · go_simp
          have HI := Lib.hid (Is.new (wdr) 35 #[.slice none 0 0, .slice none 0 0, .slice none 0 0, .slice none 0 0, .slice none 0 0, .slice none 0 0, .bool false])
          have HNB : Hid (w8.heap.size ≤ (wdr).heap.size) := Lib.hid HG.out.size
          have HG9 := HG
          have HG := Lib.hid (HG.out.alloc (.cells #[.slice none 0 0, .slice none 0 0, .slice none 0 0, .slice none 0 0, .slice none 0 0, .slice none 0 0, .bool false] 35))
          refine hKK.out _ _ (HS.out _ HG.out) (fun hHeld => ?_)
          clear hKK KK
          refine wpAnyH_ready (rs := [3]) (by kernel_rfl) (by simp) (AllReadyH.cons rfl (fun KK hKK => ?_) (AllReadyH.nil))
          go_simp
          refine (KS _ HG.out).mono ?_
          rintro _ va ⟨V9, vb9, rfl, hvp, hsv⟩
          have HVP := Lib.hid hvp
          have HV := Lib.hid hsv.ok
          have fa := hsv.f
          have HG := Lib.hid (fr_nil HG.out fa)
          have HI := Lib.hid (HI.out.fr fa id)
          have KT := KT V9 hvp
          unfold Vm.val Vm.arr at KT ⊢
          clear fa hvp hsv
          refine hKK.out _ _ (HS.out _ HG.out) (fun hHeld => ?_)
          clear hKK KK
          refine wpAnyH_ready (rs := [4]) (by kernel_rfl) (by simp) (AllReadyH.cons rfl (fun KK hKK => ?_) (AllReadyH.nil))
          go_simp
          refine (KT _ HG.out HV.out).mono ?_
          rintro _ vb ⟨K2, A2, c2, rfl, hk2, ho2, hr2, fb⟩
          have HK2 := Lib.hid hk2
          have HO := Lib.hid (ho2.base HG.out.size)
          have HR := Lib.hid (own_base hr2 HG.out.size)
          have HG := Lib.hid (fr_nil HG.out fb)
          have HI := Lib.hid (HI.out.fr fb id)
          clear fb hk2 ho2 hr2 KT
          dsimp only at HR ⊢
          unfold Km.val Km.arr
          refine hKK.out _ _ (HS.out _ HG.out) (fun hHeld => ?_)
          clear hKK KK
          refine wpAnyH_take (i := 5) (oi := { dst := some 33, op := _, type := _, pos := _, after := _, guard := _ }) (v := ?_) rfl (by kernel_rfl) (by kernel_rfl) (by kernel_rfl) (fun _ _ _ h => h) (Or.inl ⟨by rfl, ?_⟩) (by assumption) ?_
          rotate_left
          · intro Wx hSw
            try dsimp only at hSw
            go_simp
            try with_reducible rfl
          try simp only [Act.put, List.setIfInBounds_toArray, List.set_cons_zero, List.set_cons_succ]
          refine wpAnyH_take (i := 6) (oi := { dst := some 39, op := _, type := _, pos := _, after := _, guard := _ }) (v := ?_) rfl (by kernel_rfl) (by kernel_rfl) (by kernel_rfl) (fun _ _ _ h => h) (Or.inl ⟨by rfl, ?_⟩) (by assumption) ?_
          rotate_left
          · intro Wx hSw
            try dsimp only at hSw
            go_simp
            try with_reducible rfl
          try simp only [Act.put, List.setIfInBounds_toArray, List.set_cons_zero, List.set_cons_succ]
          refine wpAnyH_take (i := 7) (oi := { dst := some 40, op := _, type := _, pos := _, after := _, guard := _ }) (v := ?_) rfl (by kernel_rfl) (by kernel_rfl) (by kernel_rfl) (fun _ _ _ h => h) (Or.inl ⟨by rfl, ?_⟩) (by assumption) ?_
          rotate_left
          · intro Wx hSw
            try dsimp only at hSw
            go_simp
            try with_reducible rfl
          try simp only [Act.put, List.setIfInBounds_toArray, List.set_cons_zero, List.set_cons_succ]
          refine wpAnyH_take (i := 8) (oi := { dst := some 41, op := _, type := _, pos := _, after := _, guard := _ }) (v := ?_) rfl (by kernel_rfl) (by kernel_rfl) (by kernel_rfl) (fun _ _ _ h => h) (Or.inl ⟨by rfl, ?_⟩) (by assumption) ?_
          rotate_left
          · intro Wx hSw
            try dsimp only at hSw
            go_simp
            try with_reducible rfl
          try simp only [Act.put, List.setIfInBounds_toArray, List.set_cons_zero, List.set_cons_succ]
          refine wpAnyH_ready (rs := [10]) (by kernel_rfl) (by simp) (AllReadyH.cons rfl (fun KK hKK => ?_) (AllReadyH.nil))
          have isr := HI.out
          obtain ⟨m0, m1, m2, m3, m4, m5, m6⟩ := seven isr
          have z0 := isr.frozen 0
          have z1 := isr.frozen 1
          have z2 := isr.frozen 2
          have z3 := isr.frozen 3
          have z4 := isr.frozen 4
          have z5 := isr.frozen 5
          have z6 := isr.frozen 6
          go_simp
          have isR := (((((((isr.set 0 (.slice K2.A1 K2.own.length K2.c1)).set 1 (.slice K2.A2 K2.rts.length K2.c2)).set 2 (.slice K2.A3 K2.pts.length K2.c3)).set 3 (.slice K2.A4 K2.crs.length K2.c4)).set 4 (.slice K2.A5 K2.lns.length K2.c5)).set 5 (.slice K2.A6 K2.rss.length K2.c6)).set 6 (.bool K2.dirty))
          have fR := ((((((((Fr.refl (fun q => q = (wdr).heap.size) (vb)).setCell (p := ⟨(wdr).heap.size, 0, none⟩) (.inl rfl) (.slice K2.A1 K2.own.length K2.c1)).setCell (p := ⟨(wdr).heap.size, 1, none⟩) (.inl rfl) (.slice K2.A2 K2.rts.length K2.c2)).setCell (p := ⟨(wdr).heap.size, 2, none⟩) (.inl rfl) (.slice K2.A3 K2.pts.length K2.c3)).setCell (p := ⟨(wdr).heap.size, 3, none⟩) (.inl rfl) (.slice K2.A4 K2.crs.length K2.c4)).setCell (p := ⟨(wdr).heap.size, 4, none⟩) (.inl rfl) (.slice K2.A5 K2.lns.length K2.c5)).setCell (p := ⟨(wdr).heap.size, 5, none⟩) (.inl rfl) (.slice K2.A6 K2.rss.length K2.c6)).setCell (p := ⟨(wdr).heap.size, 6, none⟩) (.inl rfl) (.bool K2.dirty))
          simp only [List.setIfInBounds_toArray, List.set_cons_zero, List.set_cons_succ] at isR
          have HBN : Hid (Bx w8 ((((((((vb).setCell ⟨(wdr).heap.size, 0, none⟩ (.slice K2.A1 K2.own.length K2.c1)).setCell ⟨(wdr).heap.size, 1, none⟩ (.slice K2.A2 K2.rts.length K2.c2)).setCell ⟨(wdr).heap.size, 2, none⟩ (.slice K2.A3 K2.pts.length K2.c3)).setCell ⟨(wdr).heap.size, 3, none⟩ (.slice K2.A4 K2.crs.length K2.c4)).setCell ⟨(wdr).heap.size, 4, none⟩ (.slice K2.A5 K2.lns.length K2.c5)).setCell ⟨(wdr).heap.size, 5, none⟩ (.slice K2.A6 K2.rss.length K2.c6)).setCell ⟨(wdr).heap.size, 6, none⟩ (.bool K2.dirty)) (wdr).heap.size K2) := Lib.hid ⟨isR, HO.out.fr fR fun k hk e => HO.out.ne_is isr (by decide) (by decide) (by decide) (by decide) (e ▸ hk), (((((((HG.out.setCell (p := ⟨(wdr).heap.size, 0, none⟩) (.inr HNB.out) (.slice K2.A1 K2.own.length K2.c1)).setCell (p := ⟨(wdr).heap.size, 1, none⟩) (.inr HNB.out) (.slice K2.A2 K2.rts.length K2.c2)).setCell (p := ⟨(wdr).heap.size, 2, none⟩) (.inr HNB.out) (.slice K2.A3 K2.pts.length K2.c3)).setCell (p := ⟨(wdr).heap.size, 3, none⟩) (.inr HNB.out) (.slice K2.A4 K2.crs.length K2.c4)).setCell (p := ⟨(wdr).heap.size, 4, none⟩) (.inr HNB.out) (.slice K2.A5 K2.lns.length K2.c5)).setCell (p := ⟨(wdr).heap.size, 5, none⟩) (.inr HNB.out) (.slice K2.A6 K2.rss.length K2.c6)).setCell (p := ⟨(wdr).heap.size, 6, none⟩) (.inr HNB.out) (.bool K2.dirty)), HNB.out⟩
          have HRN := Lib.hid (wide_fr HR.out fR fun q hq e => wide_is_ne HR.out isr (by decide) (by subst e; exact hq))
          clear isR fR isr
          (with_reducible refine hKK.out _ _ (HS.out _ HBN.out.f) (fun hHeld => ?_))
          clear hKK KK m0 m1 m2 m3 m4 m5 m6 z0 z1 z2 z3 z4 z5 z6
          refine wpAnyH_take (i := 11) (oi := { dst := some 6, op := _, type := _, pos := _, after := _, guard := _ }) (v := ?_) rfl (by kernel_rfl) (by kernel_rfl) (by kernel_rfl) (fun _ _ _ h => h) (Or.inl ⟨by rfl, ?_⟩) (by assumption) ?_
          rotate_left
          · intro Wx hSw
            try dsimp only at hSw
            go_simp
            try with_reducible rfl
          try simp only [Act.put, List.setIfInBounds_toArray, List.set_cons_zero, List.set_cons_succ]
          refine wpAnyH_take (i := 12) (oi := { dst := some 4, op := _, type := _, pos := _, after := _, guard := _ }) (v := ?_) rfl (by kernel_rfl) (by kernel_rfl) (by kernel_rfl) (fun _ _ _ h => h) (Or.inl ⟨by rfl, ?_⟩) (by assumption) ?_
          rotate_left
          · intro Wx hSw
            try dsimp only at hSw
            go_simp
            try with_reducible rfl
          try simp only [Act.put, List.setIfInBounds_toArray, List.set_cons_zero, List.set_cons_succ]
          refine wpAnyH_done (by kernel_rfl) ?_ _
          go_wp2_with fail
          go_meet
          case rel => exact ⟨_, K2, A2, c2, rfl, rfl, rfl, HK2.out, HBN.out, HRN.out⟩
      case rest =>
        obtain ⟨nba, Ka, Aa, ca, rfl, rfl, rfl, hka, hba, hra⟩ := hcut
        have HKa := Lib.hid hka
        have HBa := Lib.hid hba
        have HRa := Lib.hid hra
        have HBK := Lib.hid (HBK.out.fr hba.f)
        have HIC := Lib.hid (HIC.out.fr hba.f id)
        have HC := Lib.hid (HC.out.fr hba.f)
        have HF8 := Lib.hid (fr_nil HF8.out hba.f)
        have HOK : Hid (∀ W, Fr (fun _ => False) wc W → K5.Ok W) := Lib.hid fun W f => HOK.out W (fr_nil hba.f f)
        clear hka hba hra
        go_upto_region 13 with fail
        generalize hw : wc = w8b at *
        clear hw
        go_cut [7, 8, 9] from 42 (fun va vl ve wx => ∃ (nb : Nat) (K2 : Km) (A2 : Option Addr) (c2 : Nat), va = .pointer (some ⟨nb, 0, none⟩) ∧ vl = .slice A2 2 c2 ∧ ve = .int .i64 0 ∧ K2.kp = exO 1 ∧ Bx w8b wx nb K2 ∧ wx.ownsRow w8b.heap.size 3 1 (.slice A2 2 c2) 2 (([0, 0] : List Int).map (Value.int .i64)))
        case first =>
          have KS := fun (W : World) (f : Fr (fun _ => False) w8b W) => seen_any (HC.out.fr f) 7 (by rw [HSM.out.1]; decide) (by rw [HSM.out.2]; decide)
          have KT := fun (V9 : Vm) (hv : V9.vp = seenM C.cf 7) (W : World) (f : Fr (fun _ => False) w8b W) (h9 : V9.Ok W) => step_any (HC.out.fr f) (HOK.out W f) h9 8
          have KT : ∀ (V9 : Vm), V9.vp = seenM C.cf 7 → ∀ W, Fr (fun _ => False) w8b W → V9.Ok W → Calls Tryz.prog 39 #[.agg #[.slice C.A1 C.l.length C.c1, .slice C.A2 C.js.length C.c2, .slice C.A3 C.sg.length C.c3, .slice C.A4 C.cr.length C.c4, .slice C.A5 C.rs.length C.c5, .int .i64 C.tm.age, .int .i64 C.tm.brake, .int .i64 C.tm.hold, .int .i64 C.tm.budget], .agg #[.slice K5.A1 K5.own.length K5.c1, .slice K5.A2 K5.rts.length K5.c2, .slice K5.A3 K5.pts.length K5.c3, .slice K5.A4 K5.crs.length K5.c4, .slice K5.A5 K5.lns.length K5.c5, .slice K5.A6 K5.rss.length K5.c6, .bool K5.dirty], V9.val, .int .i64 8] W (StepE W (exO 1, [0, 0], 0)) := fun V9 hv W f h9 => by
            have := KT V9 hv W f h9
            rw [hv, HCF.out, HK5.out, ex_step7] at this
            exact this
          unfold Cm.val Cm.arr at KS
          have HS : Hid (∀ W, Fr (fun _ => False) w8b W → (fun Wx => Wx.cell? ⟨cb, 0, none⟩ = some (.slice C.A1 C.l.length C.c1) ∧ Wx.cell? ⟨cb, 1, none⟩ = some (.slice C.A2 C.js.length C.c2) ∧ Wx.cell? ⟨cb, 2, none⟩ = some (.slice C.A3 C.sg.length C.c3) ∧ Wx.cell? ⟨cb, 3, none⟩ = some (.slice C.A4 C.cr.length C.c4) ∧ Wx.cell? ⟨cb, 4, none⟩ = some (.slice C.A5 C.rs.length C.c5) ∧ Wx.cell? ⟨cb, 5, none⟩ = some (.int .i64 C.tm.age) ∧ Wx.cell? ⟨cb, 6, none⟩ = some (.int .i64 C.tm.brake) ∧ Wx.cell? ⟨cb, 7, none⟩ = some (.int .i64 C.tm.hold) ∧ Wx.cell? ⟨cb, 8, none⟩ = some (.int .i64 C.tm.budget) ∧ Wx.cell? ⟨kb, 0, none⟩ = some (.slice K5.A1 K5.own.length K5.c1) ∧ Wx.cell? ⟨kb, 1, none⟩ = some (.slice K5.A2 K5.rts.length K5.c2) ∧ Wx.cell? ⟨kb, 2, none⟩ = some (.slice K5.A3 K5.pts.length K5.c3) ∧ Wx.cell? ⟨kb, 3, none⟩ = some (.slice K5.A4 K5.crs.length K5.c4) ∧ Wx.cell? ⟨kb, 4, none⟩ = some (.slice K5.A5 K5.lns.length K5.c5) ∧ Wx.cell? ⟨kb, 5, none⟩ = some (.slice K5.A6 K5.rss.length K5.c6) ∧ Wx.cell? ⟨kb, 6, none⟩ = some (.bool K5.dirty)) W) := Lib.hid fun W fW => by
            obtain ⟨a0, a1, a2, a3, a4, a5, a6, a7, a8⟩ := conf_cells0 (HIC.out.fr fW id)
            obtain ⟨b0, b1, b2, b3, b4, b5, b6⟩ := core_cells (K := K5) (HBK.out.is.fr fW id)
            exact ⟨a0, a1, a2, a3, a4, a5, a6, a7, a8, b0, b1, b2, b3, b4, b5, b6⟩
          have HG := Lib.hid (Fr.refl (fun _ => False) w8b).drew
          refine wp_region_held_drew (S := (fun Wx => Wx.cell? ⟨cb, 0, none⟩ = some (.slice C.A1 C.l.length C.c1) ∧ Wx.cell? ⟨cb, 1, none⟩ = some (.slice C.A2 C.js.length C.c2) ∧ Wx.cell? ⟨cb, 2, none⟩ = some (.slice C.A3 C.sg.length C.c3) ∧ Wx.cell? ⟨cb, 3, none⟩ = some (.slice C.A4 C.cr.length C.c4) ∧ Wx.cell? ⟨cb, 4, none⟩ = some (.slice C.A5 C.rs.length C.c5) ∧ Wx.cell? ⟨cb, 5, none⟩ = some (.int .i64 C.tm.age) ∧ Wx.cell? ⟨cb, 6, none⟩ = some (.int .i64 C.tm.brake) ∧ Wx.cell? ⟨cb, 7, none⟩ = some (.int .i64 C.tm.hold) ∧ Wx.cell? ⟨cb, 8, none⟩ = some (.int .i64 C.tm.budget) ∧ Wx.cell? ⟨kb, 0, none⟩ = some (.slice K5.A1 K5.own.length K5.c1) ∧ Wx.cell? ⟨kb, 1, none⟩ = some (.slice K5.A2 K5.rts.length K5.c2) ∧ Wx.cell? ⟨kb, 2, none⟩ = some (.slice K5.A3 K5.pts.length K5.c3) ∧ Wx.cell? ⟨kb, 3, none⟩ = some (.slice K5.A4 K5.crs.length K5.c4) ∧ Wx.cell? ⟨kb, 4, none⟩ = some (.slice K5.A5 K5.lns.length K5.c5) ∧ Wx.cell? ⟨kb, 5, none⟩ = some (.slice K5.A6 K5.rss.length K5.c6) ∧ Wx.cell? ⟨kb, 6, none⟩ = some (.bool K5.dirty))) (by kernel_rfl) (HS.out _ (Fr.refl _ w8b).drew) (fun hHeld => ?_)
          generalize w8b.drew = wdr at *
          refine wpAnyH_take (i := 0) (oi := { dst := some 43, op := _, type := _, pos := _, after := _, guard := _ }) (v := ?_) rfl (by kernel_rfl) (by kernel_rfl) (by kernel_rfl) (fun _ _ _ h => h) (Or.inl ⟨by rfl, ?_⟩) (by assumption) ?_
          rotate_left
          · intro Wx hSw
            try dsimp only at hSw
            go_simp
            try with_reducible rfl
          try simp only [Act.put, List.setIfInBounds_toArray, List.set_cons_zero, List.set_cons_succ]
          refine wpAnyH_take (i := 1) (oi := { dst := some 44, op := _, type := _, pos := _, after := _, guard := _ }) (v := ?_) rfl (by kernel_rfl) (by kernel_rfl) (by kernel_rfl) (fun _ _ _ h => h) (Or.inl ⟨by rfl, ?_⟩) (by assumption) ?_
          rotate_left
          · intro Wx hSw
            try dsimp only at hSw
            go_simp
            try with_reducible rfl
          try simp only [Act.put, List.setIfInBounds_toArray, List.set_cons_zero, List.set_cons_succ]
          refine wpAnyH_take (i := 2) (oi := { dst := some 45, op := _, type := _, pos := _, after := _, guard := _ }) (v := ?_) rfl (by kernel_rfl) (by kernel_rfl) (by kernel_rfl) (fun _ _ _ h => h) (Or.inl ⟨by rfl, ?_⟩) (by assumption) ?_
          rotate_left
          · intro Wx hSw
            try dsimp only at hSw
            go_simp
            try with_reducible rfl
          try simp only [Act.put, List.setIfInBounds_toArray, List.set_cons_zero, List.set_cons_succ]
          refine wpAnyH_ready (rs := [3, 9]) (by kernel_rfl) (by simp) (AllReadyH.cons rfl (fun KK hKK => ?_) (AllReadyH.cons rfl (fun KK hKK => ?_) (AllReadyH.nil)))
          · go_simp
            refine (KS _ HG.out).mono ?_
            rintro _ va ⟨V9, vb9, rfl, hvp, hsv⟩
            have HVP := Lib.hid hvp
            have HV := Lib.hid hsv.ok
            have fa := hsv.f
            have HG := Lib.hid (fr_nil HG.out fa)
            have KT := KT V9 hvp
            unfold Vm.val Vm.arr at KT ⊢
            clear fa hvp hsv
            refine hKK.out _ _ (HS.out _ HG.out) (fun hHeld => ?_)
            clear hKK KK
            refine wpAnyH_ready (rs := [4, 9]) (by kernel_rfl) (by simp) (AllReadyH.cons rfl (fun KK hKK => ?_) (AllReadyH.cons rfl (fun KK hKK => ?_) (AllReadyH.nil)))
            · go_simp
              refine (KT _ HG.out HV.out).mono ?_
              rintro _ vb ⟨K2, A2, c2, rfl, hk2, ho2, hr2, fb⟩
              have HK2 := Lib.hid hk2
              have HO := Lib.hid (ho2.base HG.out.size)
              have HR := Lib.hid (own_base hr2 HG.out.size)
              have HG := Lib.hid (fr_nil HG.out fb)
              clear fb hk2 ho2 hr2 KT
              dsimp only at HR ⊢
              unfold Km.val Km.arr
              refine hKK.out _ _ (HS.out _ HG.out) (fun hHeld => ?_)
              clear hKK KK
              refine wpAnyH_take (i := 5) (oi := { dst := some 42, op := _, type := _, pos := _, after := _, guard := _ }) (v := ?_) rfl (by kernel_rfl) (by kernel_rfl) (by kernel_rfl) (fun _ _ _ h => h) (Or.inl ⟨by rfl, ?_⟩) (by assumption) ?_
              rotate_left
              · intro Wx hSw
                try dsimp only at hSw
                go_simp
                try with_reducible rfl
              try simp only [Act.put, List.setIfInBounds_toArray, List.set_cons_zero, List.set_cons_succ]
              refine wpAnyH_take (i := 6) (oi := { dst := some 48, op := _, type := _, pos := _, after := _, guard := _ }) (v := ?_) rfl (by kernel_rfl) (by kernel_rfl) (by kernel_rfl) (fun _ _ _ h => h) (Or.inl ⟨by rfl, ?_⟩) (by assumption) ?_
              rotate_left
              · intro Wx hSw
                try dsimp only at hSw
                go_simp
                try with_reducible rfl
              try simp only [Act.put, List.setIfInBounds_toArray, List.set_cons_zero, List.set_cons_succ]
              refine wpAnyH_take (i := 7) (oi := { dst := some 49, op := _, type := _, pos := _, after := _, guard := _ }) (v := ?_) rfl (by kernel_rfl) (by kernel_rfl) (by kernel_rfl) (fun _ _ _ h => h) (Or.inl ⟨by rfl, ?_⟩) (by assumption) ?_
              rotate_left
              · intro Wx hSw
                try dsimp only at hSw
                go_simp
                try with_reducible rfl
              try simp only [Act.put, List.setIfInBounds_toArray, List.set_cons_zero, List.set_cons_succ]
              refine wpAnyH_take (i := 8) (oi := { dst := some 50, op := _, type := _, pos := _, after := _, guard := _ }) (v := ?_) rfl (by kernel_rfl) (by kernel_rfl) (by kernel_rfl) (fun _ _ _ h => h) (Or.inl ⟨by rfl, ?_⟩) (by assumption) ?_
              rotate_left
              · intro Wx hSw
                try dsimp only at hSw
                go_simp
                try with_reducible rfl
              try simp only [Act.put, List.setIfInBounds_toArray, List.set_cons_zero, List.set_cons_succ]
              refine wpAnyH_ready (rs := [9]) (by kernel_rfl) (by simp) (AllReadyH.cons rfl (fun KK hKK => ?_) (AllReadyH.nil))
              go_simp
              have HI := Lib.hid (Is.new (vb) 35 #[.slice none 0 0, .slice none 0 0, .slice none 0 0, .slice none 0 0, .slice none 0 0, .slice none 0 0, .bool false])
              have HNB : Hid (w8b.heap.size ≤ (vb).heap.size) := Lib.hid HG.out.size
              have HG9 := HG
              have HG := Lib.hid (HG.out.alloc (.cells #[.slice none 0 0, .slice none 0 0, .slice none 0 0, .slice none 0 0, .slice none 0 0, .slice none 0 0, .bool false] 35))
              have HO9 := HO
              have HR9 := HR
              have HO := Lib.hid (HO.out.fr ((Fr.refl (fun _ => False) (vb)).alloc (.cells #[.slice none 0 0, .slice none 0 0, .slice none 0 0, .slice none 0 0, .slice none 0 0, .slice none 0 0, .bool false] 35)) fun _ _ => id)
              have HR := Lib.hid (wide_fr HR.out ((Fr.refl (fun _ => False) (vb)).alloc (.cells #[.slice none 0 0, .slice none 0 0, .slice none 0 0, .slice none 0 0, .slice none 0 0, .slice none 0 0, .bool false] 35)) fun _ _ => id)
              refine hKK.out _ _ (HS.out _ HG.out) (fun hHeld => ?_)
              clear hKK KK
              refine wpAnyH_ready (rs := [10]) (by kernel_rfl) (by simp) (AllReadyH.cons rfl (fun KK hKK => ?_) (AllReadyH.nil))
              go_simp
              have isr := HI.out
              obtain ⟨m0, m1, m2, m3, m4, m5, m6⟩ := seven isr
              have HBN : Hid (Bx w8b ((vb).alloc (.cells #[.slice K2.A1 K2.own.length K2.c1, .slice K2.A2 K2.rts.length K2.c2, .slice K2.A3 K2.pts.length K2.c3, .slice K2.A4 K2.crs.length K2.c4, .slice K2.A5 K2.lns.length K2.c5, .slice K2.A6 K2.rss.length K2.c6, .bool K2.dirty] 35)) (vb).heap.size K2) := Lib.hid ⟨Is.new _ _ _, HO9.out.fr ((Fr.refl _ _).alloc _) fun _ _ => id, HG9.out.alloc _, HNB.out⟩
              have HRN := Lib.hid (wide_fr HR9.out ((Fr.refl (fun _ => False) _).alloc (.cells #[.slice K2.A1 K2.own.length K2.c1, .slice K2.A2 K2.rts.length K2.c2, .slice K2.A3 K2.pts.length K2.c3, .slice K2.A4 K2.crs.length K2.c4, .slice K2.A5 K2.lns.length K2.c5, .slice K2.A6 K2.rss.length K2.c6, .bool K2.dirty] 35)) fun _ _ => id)
              clear isr
              (with_reducible refine hKK.out _ _ (HS.out _ HBN.out.f) (fun hHeld => ?_))
              clear hKK KK m0 m1 m2 m3 m4 m5 m6
              refine wpAnyH_take (i := 11) (oi := { dst := some 8, op := _, type := _, pos := _, after := _, guard := _ }) (v := ?_) rfl (by kernel_rfl) (by kernel_rfl) (by kernel_rfl) (fun _ _ _ h => h) (Or.inl ⟨by rfl, ?_⟩) (by assumption) ?_
              rotate_left
              · intro Wx hSw
                try dsimp only at hSw
                go_simp
                try with_reducible rfl
              try simp only [Act.put, List.setIfInBounds_toArray, List.set_cons_zero, List.set_cons_succ]
              refine wpAnyH_take (i := 12) (oi := { dst := some 9, op := _, type := _, pos := _, after := _, guard := _ }) (v := ?_) rfl (by kernel_rfl) (by kernel_rfl) (by kernel_rfl) (fun _ _ _ h => h) (Or.inl ⟨by rfl, ?_⟩) (by assumption) ?_
              rotate_left
              · intro Wx hSw
                try dsimp only at hSw
                go_simp
                try with_reducible rfl
              try simp only [Act.put, List.setIfInBounds_toArray, List.set_cons_zero, List.set_cons_succ]
              refine wpAnyH_done (by kernel_rfl) ?_ _
              go_wp2_with fail
              go_meet
              case rel => exact ⟨_, K2, A2, c2, rfl, rfl, rfl, HK2.out, HBN.out, HRN.out⟩
            · go_simp
              have HI := Lib.hid (Is.new (va) 35 #[.slice none 0 0, .slice none 0 0, .slice none 0 0, .slice none 0 0, .slice none 0 0, .slice none 0 0, .bool false])
              have HNB : Hid (w8b.heap.size ≤ (va).heap.size) := Lib.hid HG.out.size
              have HG9 := HG
              have HG := Lib.hid (HG.out.alloc (.cells #[.slice none 0 0, .slice none 0 0, .slice none 0 0, .slice none 0 0, .slice none 0 0, .slice none 0 0, .bool false] 35))
              have HV := Lib.hid (HV.out.fr ((Fr.refl (fun _ => False) (va)).alloc (.cells #[.slice none 0 0, .slice none 0 0, .slice none 0 0, .slice none 0 0, .slice none 0 0, .slice none 0 0, .bool false] 35)))
              refine hKK.out _ _ (HS.out _ HG.out) (fun hHeld => ?_)
              clear hKK KK
              refine wpAnyH_ready (rs := [4]) (by kernel_rfl) (by simp) (AllReadyH.cons rfl (fun KK hKK => ?_) (AllReadyH.nil))
              go_simp
              refine (KT _ HG.out HV.out).mono ?_
              rintro _ vb ⟨K2, A2, c2, rfl, hk2, ho2, hr2, fb⟩
              have HK2 := Lib.hid hk2
              have HO := Lib.hid (ho2.base HG.out.size)
              have HR := Lib.hid (own_base hr2 HG.out.size)
              have HG := Lib.hid (fr_nil HG.out fb)
              have HI := Lib.hid (HI.out.fr fb id)
              clear fb hk2 ho2 hr2 KT
              dsimp only at HR ⊢
              unfold Km.val Km.arr
              refine hKK.out _ _ (HS.out _ HG.out) (fun hHeld => ?_)
              clear hKK KK
              refine wpAnyH_take (i := 5) (oi := { dst := some 42, op := _, type := _, pos := _, after := _, guard := _ }) (v := ?_) rfl (by kernel_rfl) (by kernel_rfl) (by kernel_rfl) (fun _ _ _ h => h) (Or.inl ⟨by rfl, ?_⟩) (by assumption) ?_
              rotate_left
              · intro Wx hSw
                try dsimp only at hSw
                go_simp
                try with_reducible rfl
              try simp only [Act.put, List.setIfInBounds_toArray, List.set_cons_zero, List.set_cons_succ]
              refine wpAnyH_take (i := 6) (oi := { dst := some 48, op := _, type := _, pos := _, after := _, guard := _ }) (v := ?_) rfl (by kernel_rfl) (by kernel_rfl) (by kernel_rfl) (fun _ _ _ h => h) (Or.inl ⟨by rfl, ?_⟩) (by assumption) ?_
              rotate_left
              · intro Wx hSw
                try dsimp only at hSw
                go_simp
                try with_reducible rfl
              try simp only [Act.put, List.setIfInBounds_toArray, List.set_cons_zero, List.set_cons_succ]
              refine wpAnyH_take (i := 7) (oi := { dst := some 49, op := _, type := _, pos := _, after := _, guard := _ }) (v := ?_) rfl (by kernel_rfl) (by kernel_rfl) (by kernel_rfl) (fun _ _ _ h => h) (Or.inl ⟨by rfl, ?_⟩) (by assumption) ?_
              rotate_left
              · intro Wx hSw
                try dsimp only at hSw
                go_simp
                try with_reducible rfl
              try simp only [Act.put, List.setIfInBounds_toArray, List.set_cons_zero, List.set_cons_succ]
              refine wpAnyH_take (i := 8) (oi := { dst := some 50, op := _, type := _, pos := _, after := _, guard := _ }) (v := ?_) rfl (by kernel_rfl) (by kernel_rfl) (by kernel_rfl) (fun _ _ _ h => h) (Or.inl ⟨by rfl, ?_⟩) (by assumption) ?_
              rotate_left
              · intro Wx hSw
                try dsimp only at hSw
                go_simp
                try with_reducible rfl
              try simp only [Act.put, List.setIfInBounds_toArray, List.set_cons_zero, List.set_cons_succ]
              refine wpAnyH_ready (rs := [10]) (by kernel_rfl) (by simp) (AllReadyH.cons rfl (fun KK hKK => ?_) (AllReadyH.nil))
              have isr := HI.out
              obtain ⟨m0, m1, m2, m3, m4, m5, m6⟩ := seven isr
              have z0 := isr.frozen 0
              have z1 := isr.frozen 1
              have z2 := isr.frozen 2
              have z3 := isr.frozen 3
              have z4 := isr.frozen 4
              have z5 := isr.frozen 5
              have z6 := isr.frozen 6
              go_simp
              have isR := (((((((isr.set 0 (.slice K2.A1 K2.own.length K2.c1)).set 1 (.slice K2.A2 K2.rts.length K2.c2)).set 2 (.slice K2.A3 K2.pts.length K2.c3)).set 3 (.slice K2.A4 K2.crs.length K2.c4)).set 4 (.slice K2.A5 K2.lns.length K2.c5)).set 5 (.slice K2.A6 K2.rss.length K2.c6)).set 6 (.bool K2.dirty))
              have fR := ((((((((Fr.refl (fun q => q = (va).heap.size) (vb)).setCell (p := ⟨(va).heap.size, 0, none⟩) (.inl rfl) (.slice K2.A1 K2.own.length K2.c1)).setCell (p := ⟨(va).heap.size, 1, none⟩) (.inl rfl) (.slice K2.A2 K2.rts.length K2.c2)).setCell (p := ⟨(va).heap.size, 2, none⟩) (.inl rfl) (.slice K2.A3 K2.pts.length K2.c3)).setCell (p := ⟨(va).heap.size, 3, none⟩) (.inl rfl) (.slice K2.A4 K2.crs.length K2.c4)).setCell (p := ⟨(va).heap.size, 4, none⟩) (.inl rfl) (.slice K2.A5 K2.lns.length K2.c5)).setCell (p := ⟨(va).heap.size, 5, none⟩) (.inl rfl) (.slice K2.A6 K2.rss.length K2.c6)).setCell (p := ⟨(va).heap.size, 6, none⟩) (.inl rfl) (.bool K2.dirty))
              simp only [List.setIfInBounds_toArray, List.set_cons_zero, List.set_cons_succ] at isR
              have HBN : Hid (Bx w8b ((((((((vb).setCell ⟨(va).heap.size, 0, none⟩ (.slice K2.A1 K2.own.length K2.c1)).setCell ⟨(va).heap.size, 1, none⟩ (.slice K2.A2 K2.rts.length K2.c2)).setCell ⟨(va).heap.size, 2, none⟩ (.slice K2.A3 K2.pts.length K2.c3)).setCell ⟨(va).heap.size, 3, none⟩ (.slice K2.A4 K2.crs.length K2.c4)).setCell ⟨(va).heap.size, 4, none⟩ (.slice K2.A5 K2.lns.length K2.c5)).setCell ⟨(va).heap.size, 5, none⟩ (.slice K2.A6 K2.rss.length K2.c6)).setCell ⟨(va).heap.size, 6, none⟩ (.bool K2.dirty)) (va).heap.size K2) := Lib.hid ⟨isR, HO.out.fr fR fun k hk e => HO.out.ne_is isr (by decide) (by decide) (by decide) (by decide) (e ▸ hk), (((((((HG.out.setCell (p := ⟨(va).heap.size, 0, none⟩) (.inr HNB.out) (.slice K2.A1 K2.own.length K2.c1)).setCell (p := ⟨(va).heap.size, 1, none⟩) (.inr HNB.out) (.slice K2.A2 K2.rts.length K2.c2)).setCell (p := ⟨(va).heap.size, 2, none⟩) (.inr HNB.out) (.slice K2.A3 K2.pts.length K2.c3)).setCell (p := ⟨(va).heap.size, 3, none⟩) (.inr HNB.out) (.slice K2.A4 K2.crs.length K2.c4)).setCell (p := ⟨(va).heap.size, 4, none⟩) (.inr HNB.out) (.slice K2.A5 K2.lns.length K2.c5)).setCell (p := ⟨(va).heap.size, 5, none⟩) (.inr HNB.out) (.slice K2.A6 K2.rss.length K2.c6)).setCell (p := ⟨(va).heap.size, 6, none⟩) (.inr HNB.out) (.bool K2.dirty)), HNB.out⟩
              have HRN := Lib.hid (wide_fr HR.out fR fun q hq e => wide_is_ne HR.out isr (by decide) (by subst e; exact hq))
              clear isR fR isr
              (with_reducible refine hKK.out _ _ (HS.out _ HBN.out.f) (fun hHeld => ?_))
              clear hKK KK m0 m1 m2 m3 m4 m5 m6 z0 z1 z2 z3 z4 z5 z6
              refine wpAnyH_take (i := 11) (oi := { dst := some 8, op := _, type := _, pos := _, after := _, guard := _ }) (v := ?_) rfl (by kernel_rfl) (by kernel_rfl) (by kernel_rfl) (fun _ _ _ h => h) (Or.inl ⟨by rfl, ?_⟩) (by assumption) ?_
              rotate_left
              · intro Wx hSw
                try dsimp only at hSw
                go_simp
                try with_reducible rfl
              try simp only [Act.put, List.setIfInBounds_toArray, List.set_cons_zero, List.set_cons_succ]
              refine wpAnyH_take (i := 12) (oi := { dst := some 9, op := _, type := _, pos := _, after := _, guard := _ }) (v := ?_) rfl (by kernel_rfl) (by kernel_rfl) (by kernel_rfl) (fun _ _ _ h => h) (Or.inl ⟨by rfl, ?_⟩) (by assumption) ?_
              rotate_left
              · intro Wx hSw
                try dsimp only at hSw
                go_simp
                try with_reducible rfl
              try simp only [Act.put, List.setIfInBounds_toArray, List.set_cons_zero, List.set_cons_succ]
              refine wpAnyH_done (by kernel_rfl) ?_ _
              go_wp2_with fail
              go_meet
              case rel => exact ⟨_, K2, A2, c2, rfl, rfl, rfl, HK2.out, HBN.out, HRN.out⟩
          · go_simp
            have HI := Lib.hid (Is.new (wdr) 35 #[.slice none 0 0, .slice none 0 0, .slice none 0 0, .slice none 0 0, .slice none 0 0, .slice none 0 0, .bool false])
            have HNB : Hid (w8b.heap.size ≤ (wdr).heap.size) := Lib.hid HG.out.size
            have HG9 := HG
            have HG := Lib.hid (HG.out.alloc (.cells #[.slice none 0 0, .slice none 0 0, .slice none 0 0, .slice none 0 0, .slice none 0 0, .slice none 0 0, .bool false] 35))
            refine hKK.out _ _ (HS.out _ HG.out) (fun hHeld => ?_)
            clear hKK KK
            refine wpAnyH_ready (rs := [3]) (by kernel_rfl) (by simp) (AllReadyH.cons rfl (fun KK hKK => ?_) (AllReadyH.nil))
            go_simp
            refine (KS _ HG.out).mono ?_
            rintro _ va ⟨V9, vb9, rfl, hvp, hsv⟩
            have HVP := Lib.hid hvp
            have HV := Lib.hid hsv.ok
            have fa := hsv.f
            have HG := Lib.hid (fr_nil HG.out fa)
            have HI := Lib.hid (HI.out.fr fa id)
            have KT := KT V9 hvp
            unfold Vm.val Vm.arr at KT ⊢
            clear fa hvp hsv
            refine hKK.out _ _ (HS.out _ HG.out) (fun hHeld => ?_)
            clear hKK KK
            refine wpAnyH_ready (rs := [4]) (by kernel_rfl) (by simp) (AllReadyH.cons rfl (fun KK hKK => ?_) (AllReadyH.nil))
            go_simp
            refine (KT _ HG.out HV.out).mono ?_
            rintro _ vb ⟨K2, A2, c2, rfl, hk2, ho2, hr2, fb⟩
            have HK2 := Lib.hid hk2
            have HO := Lib.hid (ho2.base HG.out.size)
            have HR := Lib.hid (own_base hr2 HG.out.size)
            have HG := Lib.hid (fr_nil HG.out fb)
            have HI := Lib.hid (HI.out.fr fb id)
            clear fb hk2 ho2 hr2 KT
            dsimp only at HR ⊢
            unfold Km.val Km.arr
            refine hKK.out _ _ (HS.out _ HG.out) (fun hHeld => ?_)
            clear hKK KK
            refine wpAnyH_take (i := 5) (oi := { dst := some 42, op := _, type := _, pos := _, after := _, guard := _ }) (v := ?_) rfl (by kernel_rfl) (by kernel_rfl) (by kernel_rfl) (fun _ _ _ h => h) (Or.inl ⟨by rfl, ?_⟩) (by assumption) ?_
            rotate_left
            · intro Wx hSw
              try dsimp only at hSw
              go_simp
              try with_reducible rfl
            try simp only [Act.put, List.setIfInBounds_toArray, List.set_cons_zero, List.set_cons_succ]
            refine wpAnyH_take (i := 6) (oi := { dst := some 48, op := _, type := _, pos := _, after := _, guard := _ }) (v := ?_) rfl (by kernel_rfl) (by kernel_rfl) (by kernel_rfl) (fun _ _ _ h => h) (Or.inl ⟨by rfl, ?_⟩) (by assumption) ?_
            rotate_left
            · intro Wx hSw
              try dsimp only at hSw
              go_simp
              try with_reducible rfl
            try simp only [Act.put, List.setIfInBounds_toArray, List.set_cons_zero, List.set_cons_succ]
            refine wpAnyH_take (i := 7) (oi := { dst := some 49, op := _, type := _, pos := _, after := _, guard := _ }) (v := ?_) rfl (by kernel_rfl) (by kernel_rfl) (by kernel_rfl) (fun _ _ _ h => h) (Or.inl ⟨by rfl, ?_⟩) (by assumption) ?_
            rotate_left
            · intro Wx hSw
              try dsimp only at hSw
              go_simp
              try with_reducible rfl
            try simp only [Act.put, List.setIfInBounds_toArray, List.set_cons_zero, List.set_cons_succ]
            refine wpAnyH_take (i := 8) (oi := { dst := some 50, op := _, type := _, pos := _, after := _, guard := _ }) (v := ?_) rfl (by kernel_rfl) (by kernel_rfl) (by kernel_rfl) (fun _ _ _ h => h) (Or.inl ⟨by rfl, ?_⟩) (by assumption) ?_
            rotate_left
            · intro Wx hSw
              try dsimp only at hSw
              go_simp
              try with_reducible rfl
            try simp only [Act.put, List.setIfInBounds_toArray, List.set_cons_zero, List.set_cons_succ]
            refine wpAnyH_ready (rs := [10]) (by kernel_rfl) (by simp) (AllReadyH.cons rfl (fun KK hKK => ?_) (AllReadyH.nil))
            have isr := HI.out
            obtain ⟨m0, m1, m2, m3, m4, m5, m6⟩ := seven isr
            have z0 := isr.frozen 0
            have z1 := isr.frozen 1
            have z2 := isr.frozen 2
            have z3 := isr.frozen 3
            have z4 := isr.frozen 4
            have z5 := isr.frozen 5
            have z6 := isr.frozen 6
            go_simp
            have isR := (((((((isr.set 0 (.slice K2.A1 K2.own.length K2.c1)).set 1 (.slice K2.A2 K2.rts.length K2.c2)).set 2 (.slice K2.A3 K2.pts.length K2.c3)).set 3 (.slice K2.A4 K2.crs.length K2.c4)).set 4 (.slice K2.A5 K2.lns.length K2.c5)).set 5 (.slice K2.A6 K2.rss.length K2.c6)).set 6 (.bool K2.dirty))
            have fR := ((((((((Fr.refl (fun q => q = (wdr).heap.size) (vb)).setCell (p := ⟨(wdr).heap.size, 0, none⟩) (.inl rfl) (.slice K2.A1 K2.own.length K2.c1)).setCell (p := ⟨(wdr).heap.size, 1, none⟩) (.inl rfl) (.slice K2.A2 K2.rts.length K2.c2)).setCell (p := ⟨(wdr).heap.size, 2, none⟩) (.inl rfl) (.slice K2.A3 K2.pts.length K2.c3)).setCell (p := ⟨(wdr).heap.size, 3, none⟩) (.inl rfl) (.slice K2.A4 K2.crs.length K2.c4)).setCell (p := ⟨(wdr).heap.size, 4, none⟩) (.inl rfl) (.slice K2.A5 K2.lns.length K2.c5)).setCell (p := ⟨(wdr).heap.size, 5, none⟩) (.inl rfl) (.slice K2.A6 K2.rss.length K2.c6)).setCell (p := ⟨(wdr).heap.size, 6, none⟩) (.inl rfl) (.bool K2.dirty))
            simp only [List.setIfInBounds_toArray, List.set_cons_zero, List.set_cons_succ] at isR
            have HBN : Hid (Bx w8b ((((((((vb).setCell ⟨(wdr).heap.size, 0, none⟩ (.slice K2.A1 K2.own.length K2.c1)).setCell ⟨(wdr).heap.size, 1, none⟩ (.slice K2.A2 K2.rts.length K2.c2)).setCell ⟨(wdr).heap.size, 2, none⟩ (.slice K2.A3 K2.pts.length K2.c3)).setCell ⟨(wdr).heap.size, 3, none⟩ (.slice K2.A4 K2.crs.length K2.c4)).setCell ⟨(wdr).heap.size, 4, none⟩ (.slice K2.A5 K2.lns.length K2.c5)).setCell ⟨(wdr).heap.size, 5, none⟩ (.slice K2.A6 K2.rss.length K2.c6)).setCell ⟨(wdr).heap.size, 6, none⟩ (.bool K2.dirty)) (wdr).heap.size K2) := Lib.hid ⟨isR, HO.out.fr fR fun k hk e => HO.out.ne_is isr (by decide) (by decide) (by decide) (by decide) (e ▸ hk), (((((((HG.out.setCell (p := ⟨(wdr).heap.size, 0, none⟩) (.inr HNB.out) (.slice K2.A1 K2.own.length K2.c1)).setCell (p := ⟨(wdr).heap.size, 1, none⟩) (.inr HNB.out) (.slice K2.A2 K2.rts.length K2.c2)).setCell (p := ⟨(wdr).heap.size, 2, none⟩) (.inr HNB.out) (.slice K2.A3 K2.pts.length K2.c3)).setCell (p := ⟨(wdr).heap.size, 3, none⟩) (.inr HNB.out) (.slice K2.A4 K2.crs.length K2.c4)).setCell (p := ⟨(wdr).heap.size, 4, none⟩) (.inr HNB.out) (.slice K2.A5 K2.lns.length K2.c5)).setCell (p := ⟨(wdr).heap.size, 5, none⟩) (.inr HNB.out) (.slice K2.A6 K2.rss.length K2.c6)).setCell (p := ⟨(wdr).heap.size, 6, none⟩) (.inr HNB.out) (.bool K2.dirty)), HNB.out⟩
            have HRN := Lib.hid (wide_fr HR.out fR fun q hq e => wide_is_ne HR.out isr (by decide) (by subst e; exact hq))
            clear isR fR isr
            (with_reducible refine hKK.out _ _ (HS.out _ HBN.out.f) (fun hHeld => ?_))
            clear hKK KK m0 m1 m2 m3 m4 m5 m6 z0 z1 z2 z3 z4 z5 z6
            refine wpAnyH_take (i := 11) (oi := { dst := some 8, op := _, type := _, pos := _, after := _, guard := _ }) (v := ?_) rfl (by kernel_rfl) (by kernel_rfl) (by kernel_rfl) (fun _ _ _ h => h) (Or.inl ⟨by rfl, ?_⟩) (by assumption) ?_
            rotate_left
            · intro Wx hSw
              try dsimp only at hSw
              go_simp
              try with_reducible rfl
            try simp only [Act.put, List.setIfInBounds_toArray, List.set_cons_zero, List.set_cons_succ]
            refine wpAnyH_take (i := 12) (oi := { dst := some 9, op := _, type := _, pos := _, after := _, guard := _ }) (v := ?_) rfl (by kernel_rfl) (by kernel_rfl) (by kernel_rfl) (fun _ _ _ h => h) (Or.inl ⟨by rfl, ?_⟩) (by assumption) ?_
            rotate_left
            · intro Wx hSw
              try dsimp only at hSw
              go_simp
              try with_reducible rfl
            try simp only [Act.put, List.setIfInBounds_toArray, List.set_cons_zero, List.set_cons_succ]
            refine wpAnyH_done (by kernel_rfl) ?_ _
            go_wp2_with fail
            go_meet
            case rel => exact ⟨_, K2, A2, c2, rfl, rfl, rfl, HK2.out, HBN.out, HRN.out⟩
        case rest =>
          obtain ⟨nbb, Kb, Ab, cb9, rfl, rfl, rfl, hkb, hbb, hrb⟩ := hcut
          have ba := HBa.out.fr hbb.f
          have ra := Ka.rts
          have ea : Ka.rts = [⟨2, 0, 0, 0⟩, ⟨0, 0, 0, 0⟩] := congrArg Kp.rts HKa.out
          have eb : Kb.rts = [⟨1, 0, 0, 0⟩, ⟨0, 0, 0, 0⟩] := congrArg Kp.rts hkb
          have la : Ka.rts.length = 2 := by rw [ea]; rfl
          have lb : Kb.rts.length = 2 := by rw [eb]; rfl
          obtain ⟨ga, oa, hAa, da, -⟩ := rd_rs (wide_rd ba.own.rts) (j := 0) (by omega)
          obtain ⟨gb, ob, hAb, db, -⟩ := rd_rs (wide_rd hbb.own.rts) (j := 0) (by omega)
          have xa : wc.cell? ⟨nba, 1, none⟩ = some (.slice Ka.A2 Ka.rts.length Ka.c2) := ba.is.cell 1
          have xb : wc.cell? ⟨nbb, 1, none⟩ = some (.slice Kb.A2 Kb.rts.length Kb.c2) := hbb.is.cell 1
          rw [hAa, la] at xa
          rw [hAb, lb] at xb
          have ya : wc.cell? ⟨ga, oa, none⟩ = some (.int .i64 2) := by
            simp only [Nat.zero_mul, Nat.add_zero, ea, List.getElem_cons_zero] at da
            exact da
          have yb : wc.cell? ⟨gb, ob, none⟩ = some (.int .i64 1) := by
            simp only [Nat.zero_mul, Nat.add_zero, eb, List.getElem_cons_zero] at db
            exact db
          have KI1 : ∀ W, Fr (fun _ => False) wc W → ∀ A', Rd W A' (([2, 0] : List Int).map (Value.int .i64)) → Calls Tryz.prog 41 #[.slice Aa 2 ca, .slice A' 2 2] W fun e w' => e = .returned (.bool true) ∧ Fr (fun _ => False) W w' := fun W f A' h => sameints_any (l := [2, 0]) ((wide_rd HRa.out).fr (fr_nil hbb.f f) fun _ _ => id) h (by decide)
          have KI2 : ∀ W, Fr (fun _ => False) wc W → ∀ A', Rd W A' (([0, 0] : List Int).map (Value.int .i64)) → Calls Tryz.prog 41 #[.slice Ab 2 cb9, .slice A' 2 2] W fun e w' => e = .returned (.bool true) ∧ Fr (fun _ => False) W w' := fun W f A' h => sameints_any (l := [0, 0]) ((wide_rd hrb).fr f fun _ _ => id) h (by decide)
          have HKI1 := Lib.hid KI1
          have HKI2 := Lib.hid KI2
          have HFZ := Lib.hid (fr_nil HF8.out hbb.f)
          have HS : Hid (∀ W, Fr (fun _ => False) wc W → W.cell? ⟨nba, 1, none⟩ = some (.slice (some ⟨ga, oa, none⟩) 2 Ka.c2) ∧ W.cell? ⟨ga, oa, none⟩ = some (.int .i64 2) ∧ W.cell? ⟨nbb, 1, none⟩ = some (.slice (some ⟨gb, ob, none⟩) 2 Kb.c2) ∧ W.cell? ⟨gb, ob, none⟩ = some (.int .i64 1)) := Lib.hid fun W f => ⟨(f.cell (World.block_lt_of_cell? _ _ xa) id).trans xa, (f.cell (World.block_lt_of_cell? _ _ ya) id).trans ya, (f.cell (World.block_lt_of_cell? _ _ xb) id).trans xb, (f.cell (World.block_lt_of_cell? _ _ yb) id).trans yb⟩
          clear hkb hbb hrb ba ra ea eb la lb hAa hAb da db KI1 KI2 HBK HIC HC HOK HBa HKa
          obtain ⟨s1, s2, s3, s4⟩ := HS.out _ (Fr.refl _ wc)
          clear xa ya xb yb
          go_upto_region 16 with fail
          go_wp2_with fail
          have f5 := (Fr.refl (fun _ => False) wc).alloc (.cells #[.int .i64 2, .int .i64 0] 3)
          refine (HKI1.out _ f5 _ (lit_rd wc [.int .i64 2, .int .i64 0] 3)).mono ?_
          rintro _ v1 ⟨rfl, f9⟩
          have HG := Lib.hid (fr_nil f5 f9)
          clear f5 f9 s1 s2 s3 s4
          obtain ⟨s1, s2, s3, s4⟩ := HS.out _ HG.out
          go_wp2_with fail
          have f5 := HG.out.alloc (.cells #[.int .i64 0, .int .i64 0] 3)
          refine (HKI2.out _ f5 _ (lit_rd v1 [.int .i64 0, .int .i64 0] 3)).mono ?_
          rintro _ v2 ⟨rfl, f9⟩
          have HG2 := Lib.hid (fr_nil f5 f9)
          clear f5 f9 s1 s2 s3 s4
          go_wp2_with fail
          go_ret
          exact ⟨rfl, fr_nil HFZ.out HG2.out⟩
end Go.Proofs.YtginfnbdnkgjbaaGreat.Nk

import Derived.Test.YtginfnbdnkgjbaaGreatJone
import Derived.Test.YtginfnbdnkgjbaaGreatLm
import Derived.Test.YtginfnbdnkgjbaaGreatJtwo
import Derived.Test.YtginfnbdnkgjbaaGreatKz
import Derived.Test.YtginfnbdnkgjbaaGreatK2
import Derived.Test.YtginfnbdnkgjbaaGreatKx
import Derived.Test.YtginfnbdnkgjbaaGreatLtob
import Derived.Test.YtginfnbdnkgjbaaGreatKa
import Derived.Test.YtginfnbdnkgjbaaGreatLfacts
import Derived.SizedLaws
/- Small facts of right stations and of states that fit. -/
namespace Go.Proofs.YtginfnbdnkgjbaaGreat.Lk
open Go.RowKit

theorem right_small {c : Cf} (h : checkE c = 0) : c.secs.length ≤ 24 ∧ c.crs.length ≤ 4 ∧ c.rts.length ≤ 12 := by
  obtain ⟨h1, -, h3, h4, -, -⟩ := check_parts h
  unfold checkB at h1
  rw [Bool.and_eq_true] at h1
  rw [Bool.and_eq_true, decide_eq_true_eq] at h3
  have := (sizes_short h1.1).2.1
  exact ⟨by omega, h3.1, h4⟩
/-- a state that fits can be read, wherever it lies -/
theorem fit_ok {B : Nat} {w : World} {K : Km} {c : Cf} (ho : K.Own B w) (h : FitP c K.kp) : K.Ok w := by
  obtain ⟨a, b, d⟩ := right_small h.chk
  have l1 : K.own.length = c.secs.length := h.l1
  have l2 : K.rts.length = c.rts.length := h.l2
  have l3 : K.pts.length = c.secs.length := h.l3
  have l4 : K.crs.length = c.crs.length := h.l4
  have l5 : K.lns.length = 4 := h.l5
  have l6 : K.rss.length = c.secs.length := h.l6
  exact ho.ok (by omega) (by omega) (by omega) (by omega) (by omega) (by omega)
theorem gate_fit {c : Cf} {k : Kp} (h : FitP c k) (x : Kp × Int) : gateM c k true x = x := by
  unfold gateM
  rw [fits_iff.2 h, if_neg (by decide), if_neg (by decide)]
end Go.Proofs.YtginfnbdnkgjbaaGreat.Lk
/- The laws' first starts with all sections free. -/
namespace Go.Proofs.YtginfnbdnkgjbaaGreat.Lk
open Go.RowKit

def freeM (_ : Int) : Int := 0
theorem bx_own1 {w0 v : World} {kb g j : Nat} {K : Km} {l : List Int} (h : Bx w0 v kb { K with own := fillP freeM (-1) l j }) (hB : K.A1 = some ⟨g, 0, none⟩) (hj : j < l.length) :
    Hid (Bx w0 (v.setCell ⟨g, j, none⟩ (.int .i64 0)) kb { K with own := fillP freeM (-1) l (j + 1) }) ∧ v.cell? ⟨kb, 0, none⟩ = some (.slice (some ⟨g, 0, none⟩) l.length K.c1) ∧ (∃ u, v.cell? ⟨g, j, none⟩ = some u) ∧ v.frozen? ⟨g, j, none⟩ = false := by
  have hlen := fillP_len freeM (-1) l j (by omega)
  have b := h.owner (K := { K with own := fillP freeM (-1) l j }) (j := j) (by show j < (fillP _ _ _ _).length; omega) hB 0
  refine ⟨Lib.hid ?_, ?_, ?_⟩
  · rw [← fillP_set freeM (-1) l j hj]
    exact b
  · have c := h.is.cell 0
    simpa [Km.arr, hB, hlen] using c
  · have o' : v.ownsRow w0.heap.size 3 1 (.slice (some ⟨g, 0, none⟩) (fillP freeM (-1) l j).length K.c1) (fillP freeM (-1) l j).length ((fillP freeM (-1) l j).map (Value.int .i64)) := by
      have o2 : v.ownsRow w0.heap.size 3 1 (.slice K.A1 (fillP freeM (-1) l j).length K.c1) (fillP freeM (-1) l j).length ((fillP freeM (-1) l j).map (Value.int .i64)) := h.own.own
      rw [hB] at o2; exact o2
    obtain ⟨g', o9, e9, c0⟩ := rd_int (wide_rd o') (j := j) (by omega)
    injection e9 with e9
    injection e9 with e1 e2
    subst e1 e2
    simp only [Nat.zero_add] at c0
    exact ⟨⟨_, c0⟩, o'.frozenAt _⟩
set_option maxHeartbeats 4000000 in
set_option maxRecDepth 100000 in
theorem opened_any {C : Cm} (w : World) (hC : C.Ok w) (hcr : C.cr.length * 16 ≤ 140737488351232) :
    Calls Tryz.prog 34 #[C.val] w (Back w (openM C.cf)) := by
  have KB := fun W (f : Fr (fun _ => False) w W) => new_any W (hC.fr f) hcr 0
  have HF0 := Lib.hid (((Fr.refl (fun _ => False) w).alloc (.cells C.arr 30)).alloc (.cells #[.slice none 0 0, .slice none 0 0, .slice none 0 0, .slice none 0 0, .slice none 0 0, .slice none 0 0, .bool false] 35))
  have HIC := Lib.hid ((Is.new w 30 C.arr).alloc (.cells #[.slice none 0 0, .slice none 0 0, .slice none 0 0, .slice none 0 0, .slice none 0 0, .slice none 0 0, .bool false] 35))
  have HIR := Lib.hid (Is.new (w.alloc (.cells C.arr 30)) 35 #[.slice none 0 0, .slice none 0 0, .slice none 0 0, .slice none 0 0, .slice none 0 0, .slice none 0 0, .bool false])
  rw [show (w.alloc (.cells C.arr 30)).heap.size = w.heap.size + 1 by simp] at HIR
  have hz1 : ((w.alloc (.cells C.arr 30)).alloc (.cells #[.slice none 0 0, .slice none 0 0, .slice none 0 0, .slice none 0 0, .slice none 0 0, .slice none 0 0, .bool false] 35)).heap.size = w.heap.size + 2 := by simp
  have hcb := hC.b1
  clear hC hcr
  unfold Cm.val Cm.arr at *
  go_enter Tryz.func34, Tryz.ntmps34
  go_upto_region 1 with (fail)
  generalize ((w.alloc _).alloc _) = w1 at *
  have HN1 : Hid (w.heap.size + 2 ≤ w1.heap.size) := Lib.hid (Nat.le_of_eq hz1.symm)
  clear hz1
  obtain ⟨p0, p1, p2, p3, p4, p5, p6, p7, p8⟩ := conf_cells0 HIC.out
  go_wp2_with fail
  refine (KB _ HF0.out).mono ?_
  rintro _ w2 ⟨K, rfl, hk, ho, f2⟩
  have HKP := Lib.hid hk
  have HBX := Lib.hid (bx_made ho f2)
  clear hk ho f2 KB p0 p1 p2 p3 p4 p5 p6 p7 p8
  unfold Km.val Km.arr
  go_upto_region 2 with fail
  generalize hw3 : World.alloc _ _ = w3 at *
  generalize w2.heap.size = kb at *
  clear hw3
  have c0 : w3.cell? ⟨kb, 0, none⟩ = some (.slice K.A1 K.own.length K.c1) := HBX.out.is.cell 0
  have HE0 : Hid (K.own = fillP freeM (-1) K.own 0) := Lib.hid (by
    have h : K.own = C.l.map fun _ => -1 := congrArg Kp.own HKP.out
    rw [fillP_zero]
    have e2 : K.own.length = C.l.length := by rw [h, List.length_map]
    rw [e2, h, List.map_const'])
  have HLB : Hid (K.own.length * 24 ≤ 140737488351232) := Lib.hid (by
    have h : K.own = C.l.map fun _ => -1 := congrArg Kp.own HKP.out
    rw [h, List.length_map]
    exact hcb)
  go_wp2_with fail
  clear c0
  go_loopw [10] (fun i wr => ∃ k, k ≤ K.own.length ∧ i = .int .i64 (k : Nat) ∧ Bx w1 wr kb { K with own := fillP freeM (-1) K.own k }) (fun i _ => K.own.length - (intOf i).toNat)
  case atStart => exact ⟨0, Nat.zero_le _, rfl, by rw [← HE0.out]; exact HBX.out⟩
  case round =>
    clear HBX
    obtain ⟨k, hk, rfl, hbx⟩ := hrel
    have HZ := Lib.hid hbx
    clear hbx
    by_cases hlt : k < K.own.length
    · obtain ⟨g, hA, -, -⟩ := own_some HZ.out.own.own (by show 0 < (fillP _ _ _ _).length; rw [fillP_len _ _ _ _ (by omega)]; omega)
      have hA : K.A1 = some ⟨g, 0, none⟩ := hA
      obtain ⟨HVN, c0, ⟨u, cu⟩, zu⟩ := bx_own1 HZ.out hA hlt
      have i1 : (0 : Int) ≤ (k : Int) := by omega
      have i2 : (k : Int) < (K.own.length : Int) := by omega
      have i5 : (k : Int) < 140737488351232 := by have := HLB.out; omega
      clear hA HE0
      go_wp2_with fail
      go_roundw
      case rel => exact ⟨k + 1, by omega, by go_num, HVN.out⟩
      case measure => simp [intOf]; omega
    · have hkn : k = K.own.length := by omega
      subst hkn
      have HV0 : Hid (Bx w1 wr kb { K with own := K.own.map freeM }) := Lib.hid (by
        have := HZ.out
        rw [fillP_all _ _ _ _ (Nat.le_refl _)] at this
        exact this)
      have HQ : Hid (({ K with own := K.own.map freeM } : Km).kp = openM C.cf) := Lib.hid (by
        have h := HKP.out
        unfold Km.kp newM at h
        simp only [Kp.mk.injEq] at h
        obtain ⟨h1, h2, h3, h4, h5, h6, h7⟩ := h
        unfold Km.kp openM newM
        simp only [Kp.mk.injEq]
        refine ⟨?_, h2, h3, h4, h5, h6, h7⟩
        rw [h1, List.map_map]
        rfl)
      clear hlt hk HZ HKP HE0
      generalize ({ K with own := K.own.map freeM } : Km) = K3 at HQ HV0
      have HV := HV0
      clear HV0
      obtain ⟨k0, k1, k2, k3, k4, k5, k6⟩ := core_cells (K := K3) HV.out.is
      have isr := HIR.out.fr HV.out.f id
      obtain ⟨m0, m1, m2, m3, m4, m5, m6⟩ := seven isr
      have z0x := isr.frozen 0
      have z1x := isr.frozen 1
      have z2x := isr.frozen 2
      have z3x := isr.frozen 3
      have z4x := isr.frozen 4
      have z5x := isr.frozen 5
      have z6x := isr.frozen 6
      have isR := (((((((isr.set 0 (.slice K3.A1 K3.own.length K3.c1)).set 1 (.slice K3.A2 K3.rts.length K3.c2)).set 2 (.slice K3.A3 K3.pts.length K3.c3)).set 3 (.slice K3.A4 K3.crs.length K3.c4)).set 4 (.slice K3.A5 K3.lns.length K3.c5)).set 5 (.slice K3.A6 K3.rss.length K3.c6)).set 6 (.bool K3.dirty))
      have fR := ((((((((Fr.refl (fun q => q = w.heap.size + 1) wr).setCell (p := ⟨w.heap.size + 1, 0, none⟩) (.inl rfl) (.slice K3.A1 K3.own.length K3.c1)).setCell (p := ⟨w.heap.size + 1, 1, none⟩) (.inl rfl) (.slice K3.A2 K3.rts.length K3.c2)).setCell (p := ⟨w.heap.size + 1, 2, none⟩) (.inl rfl) (.slice K3.A3 K3.pts.length K3.c3)).setCell (p := ⟨w.heap.size + 1, 3, none⟩) (.inl rfl) (.slice K3.A4 K3.crs.length K3.c4)).setCell (p := ⟨w.heap.size + 1, 4, none⟩) (.inl rfl) (.slice K3.A5 K3.lns.length K3.c5)).setCell (p := ⟨w.heap.size + 1, 5, none⟩) (.inl rfl) (.slice K3.A6 K3.rss.length K3.c6)).setCell (p := ⟨w.heap.size + 1, 6, none⟩) (.inl rfl) (.bool K3.dirty))
      simp only [List.setIfInBounds_toArray, List.set_cons_zero, List.set_cons_succ] at isR
      go_wp2_with fail
      generalize hW : World.setCell _ _ _ = W at *
      have d0 := isR.cell 0
      have d1 := isR.cell 1
      have d2 := isR.cell 2
      have d3 := isR.cell 3
      have d4 := isR.cell 4
      have d5 := isR.cell 5
      have d6 := isR.cell 6
      have hn1 : w.heap.size + 2 ≤ w1.heap.size := HN1.out
      have HOW : K3.Own w.heap.size W := (HV.out.own.fr fR fun k hk e => by have a := (HV.out.own.lt k hk).1; omega).base (by omega)
      have FW : Fr (fun _ => False) w W := (fr_nil HF0.out HV.out.f).trans fR fun k hk e => by omega
      refine bodyPost_ret (v := K3.val) ?_ rfl ⟨K3, rfl, HQ.out, HOW, FW⟩
      unfold Km.val Km.arr
      simp [results, Tryz.results34, go_sem, d0, d1, d2, d3, d4, d5, d6]
set_option maxHeartbeats 4000000 in
set_option maxRecDepth 100000 in
theorem free_any {C : Cm} (w : World) (hC : C.Ok w) (hcr : C.cr.length * 16 ≤ 140737488351232) :
    Calls Tryz.prog 45 #[C.val] w (Back w ({ openM C.cf with dirty := false })) := by
  have KB := fun W (f : Fr (fun _ => False) w W) => new_any W (hC.fr f) hcr 0
  have HF0 := Lib.hid (((Fr.refl (fun _ => False) w).alloc (.cells C.arr 30)).alloc (.cells #[.slice none 0 0, .slice none 0 0, .slice none 0 0, .slice none 0 0, .slice none 0 0, .slice none 0 0, .bool false] 35))
  have HIC := Lib.hid ((Is.new w 30 C.arr).alloc (.cells #[.slice none 0 0, .slice none 0 0, .slice none 0 0, .slice none 0 0, .slice none 0 0, .slice none 0 0, .bool false] 35))
  have HIR := Lib.hid (Is.new (w.alloc (.cells C.arr 30)) 35 #[.slice none 0 0, .slice none 0 0, .slice none 0 0, .slice none 0 0, .slice none 0 0, .slice none 0 0, .bool false])
  rw [show (w.alloc (.cells C.arr 30)).heap.size = w.heap.size + 1 by simp] at HIR
  have hz1 : ((w.alloc (.cells C.arr 30)).alloc (.cells #[.slice none 0 0, .slice none 0 0, .slice none 0 0, .slice none 0 0, .slice none 0 0, .slice none 0 0, .bool false] 35)).heap.size = w.heap.size + 2 := by simp
  have hcb := hC.b1
  clear hC hcr
  unfold Cm.val Cm.arr at *
  go_enter Tryz.func45, Tryz.ntmps45
  go_upto_region 1 with (fail)
  generalize ((w.alloc _).alloc _) = w1 at *
  have HN1 : Hid (w.heap.size + 2 ≤ w1.heap.size) := Lib.hid (Nat.le_of_eq hz1.symm)
  clear hz1
  obtain ⟨p0, p1, p2, p3, p4, p5, p6, p7, p8⟩ := conf_cells0 HIC.out
  go_wp2_with fail
  refine (KB _ HF0.out).mono ?_
  rintro _ w2 ⟨K, rfl, hk, ho, f2⟩
  have HKP := Lib.hid hk
  have HBX := Lib.hid (bx_made ho f2)
  clear hk ho f2 KB p0 p1 p2 p3 p4 p5 p6 p7 p8
  unfold Km.val Km.arr
  go_upto_region 2 with fail
  generalize hw3 : World.alloc _ _ = w3 at *
  generalize w2.heap.size = kb at *
  clear hw3
  have c0 : w3.cell? ⟨kb, 0, none⟩ = some (.slice K.A1 K.own.length K.c1) := HBX.out.is.cell 0
  have HE0 : Hid (K.own = fillP freeM (-1) K.own 0) := Lib.hid (by
    have h : K.own = C.l.map fun _ => -1 := congrArg Kp.own HKP.out
    rw [fillP_zero]
    have e2 : K.own.length = C.l.length := by rw [h, List.length_map]
    rw [e2, h, List.map_const'])
  have HLB : Hid (K.own.length * 24 ≤ 140737488351232) := Lib.hid (by
    have h : K.own = C.l.map fun _ => -1 := congrArg Kp.own HKP.out
    rw [h, List.length_map]
    exact hcb)
  go_wp2_with fail
  clear c0
  go_loopw [10] (fun i wr => ∃ k, k ≤ K.own.length ∧ i = .int .i64 (k : Nat) ∧ Bx w1 wr kb { K with own := fillP freeM (-1) K.own k }) (fun i _ => K.own.length - (intOf i).toNat)
  case atStart => exact ⟨0, Nat.zero_le _, rfl, by rw [← HE0.out]; exact HBX.out⟩
  case round =>
    clear HBX
    obtain ⟨k, hk, rfl, hbx⟩ := hrel
    have HZ := Lib.hid hbx
    clear hbx
    by_cases hlt : k < K.own.length
    · obtain ⟨g, hA, -, -⟩ := own_some HZ.out.own.own (by show 0 < (fillP _ _ _ _).length; rw [fillP_len _ _ _ _ (by omega)]; omega)
      have hA : K.A1 = some ⟨g, 0, none⟩ := hA
      obtain ⟨HVN, c0, ⟨u, cu⟩, zu⟩ := bx_own1 HZ.out hA hlt
      have i1 : (0 : Int) ≤ (k : Int) := by omega
      have i2 : (k : Int) < (K.own.length : Int) := by omega
      have i5 : (k : Int) < 140737488351232 := by have := HLB.out; omega
      clear hA HE0
      go_wp2_with fail
      go_roundw
      case rel => exact ⟨k + 1, by omega, by go_num, HVN.out⟩
      case measure => simp [intOf]; omega
    · have hkn : k = K.own.length := by omega
      subst hkn
      have HV0 : Hid (Bx w1 wr kb { K with own := K.own.map freeM }) := Lib.hid (by
        have := HZ.out
        rw [fillP_all _ _ _ _ (Nat.le_refl _)] at this
        exact this)
      have HV1 := Lib.hid (HV0.out.dirt false)
      have cd : wr.cell? ⟨kb, 6, none⟩ = some (.bool K.dirty) := HV0.out.is.cell 6
      have zd := HV0.out.is.frozen 6
      have HQ : Hid (({ K with own := K.own.map freeM, dirty := false } : Km).kp = { openM C.cf with dirty := false }) := Lib.hid (by
        have h := HKP.out
        unfold Km.kp newM at h
        simp only [Kp.mk.injEq] at h
        obtain ⟨h1, h2, h3, h4, h5, h6, h7⟩ := h
        unfold Km.kp openM newM
        simp only [Kp.mk.injEq]
        refine ⟨?_, h2, h3, h4, h5, h6, trivial⟩
        rw [h1, List.map_map]
        rfl)
      clear hlt hk HZ HKP HE0
      go_upto_region 8 with fail
      clear cd zd
      generalize ({ K with own := K.own.map freeM, dirty := false } : Km) = K3 at HQ HV1
      have HV := HV1
      clear HV1 HV0
      generalize wr.setCell ⟨kb, 6, none⟩ (.bool false) = wq at *
      obtain ⟨k0, k1, k2, k3, k4, k5, k6⟩ := core_cells (K := K3) HV.out.is
      have isr := HIR.out.fr HV.out.f id
      obtain ⟨m0, m1, m2, m3, m4, m5, m6⟩ := seven isr
      have z0x := isr.frozen 0
      have z1x := isr.frozen 1
      have z2x := isr.frozen 2
      have z3x := isr.frozen 3
      have z4x := isr.frozen 4
      have z5x := isr.frozen 5
      have z6x := isr.frozen 6
      have isR := (((((((isr.set 0 (.slice K3.A1 K3.own.length K3.c1)).set 1 (.slice K3.A2 K3.rts.length K3.c2)).set 2 (.slice K3.A3 K3.pts.length K3.c3)).set 3 (.slice K3.A4 K3.crs.length K3.c4)).set 4 (.slice K3.A5 K3.lns.length K3.c5)).set 5 (.slice K3.A6 K3.rss.length K3.c6)).set 6 (.bool K3.dirty))
      have fR := ((((((((Fr.refl (fun q => q = w.heap.size + 1) wq).setCell (p := ⟨w.heap.size + 1, 0, none⟩) (.inl rfl) (.slice K3.A1 K3.own.length K3.c1)).setCell (p := ⟨w.heap.size + 1, 1, none⟩) (.inl rfl) (.slice K3.A2 K3.rts.length K3.c2)).setCell (p := ⟨w.heap.size + 1, 2, none⟩) (.inl rfl) (.slice K3.A3 K3.pts.length K3.c3)).setCell (p := ⟨w.heap.size + 1, 3, none⟩) (.inl rfl) (.slice K3.A4 K3.crs.length K3.c4)).setCell (p := ⟨w.heap.size + 1, 4, none⟩) (.inl rfl) (.slice K3.A5 K3.lns.length K3.c5)).setCell (p := ⟨w.heap.size + 1, 5, none⟩) (.inl rfl) (.slice K3.A6 K3.rss.length K3.c6)).setCell (p := ⟨w.heap.size + 1, 6, none⟩) (.inl rfl) (.bool K3.dirty))
      simp only [List.setIfInBounds_toArray, List.set_cons_zero, List.set_cons_succ] at isR
      go_wp2_with fail
      generalize hW : World.setCell _ _ _ = W at *
      have d0 := isR.cell 0
      have d1 := isR.cell 1
      have d2 := isR.cell 2
      have d3 := isR.cell 3
      have d4 := isR.cell 4
      have d5 := isR.cell 5
      have d6 := isR.cell 6
      have hn1 : w.heap.size + 2 ≤ w1.heap.size := HN1.out
      have HOW : K3.Own w.heap.size W := (HV.out.own.fr fR fun k hk e => by have a := (HV.out.own.lt k hk).1; omega).base (by omega)
      have FW : Fr (fun _ => False) w W := (fr_nil HF0.out HV.out.f).trans fR fun k hk e => by omega
      refine bodyPost_ret (v := K3.val) ?_ rfl ⟨K3, rfl, HQ.out, HOW, FW⟩
      unfold Km.val Km.arr
      simp [results, Tryz.results45, go_sem, d0, d1, d2, d3, d4, d5, d6]
end Go.Proofs.YtginfnbdnkgjbaaGreat.Lk
/- The walk of LocksApart: a route is locked, then none with which it has a section of their paths in common. -/
namespace Go.Proofs.YtginfnbdnkgjbaaGreat.Lk
open Go.RowKit

theorem locks_short {C : Cm} (h : checkE C.cf = 0) : ∀ r ∈ C.rs, (r.over.length + (r.path.length + r.flank.length)) * 8 ≤ 70368744177664 := fun r hr => by
  have := right_short (routesE_zero (check_parts h).2.2.2.2.1 r.rt (List.mem_map_of_mem hr))
  have a : r.flank.length ≤ 32 := this.1
  have b : r.over.length ≤ 1 := this.2.1
  have c : r.path.length ≤ 8 := this.2.2
  omega
theorem rt_ro {C : Cm} {j : Nat} (hj : j < C.rs.length) : rtAt C.cf j = C.rs[j].rt := by
  rw [rt_mem (c := C.cf) (by unfold Cm.cf; simpa using hj)]
  unfold Cm.cf
  simp
theorem locksR_at {C : Cm} {j : Nat} (hj : j < C.rs.length) : locksR C (j : Int) = locksM C.rs[j].rt := by
  unfold locksR
  rw [if_pos (by unfold isSecB; simp; omega), Int.toNat_natCast, rs_at hj]
theorem own_len9 {w : World} {B c : Nat} {A : Option Addr} {L : List Int} (h : w.ownsRow B 3 1 (.slice A L.length c) L.length (L.map (Value.int .i64))) : L.length ≤ 9223372036854775807 := by
  obtain ⟨A2, c2, e, hle, hm, -, -⟩ := wide_form h
  unfold maxLen at hm
  omega
/-- behind a locking each section that the route locks is its -/
theorem locked_own {c : Cf} (h : checkE c = 0) {k : Kp} (hl : k.own.length = c.secs.length) {now : Int} {j : Nat} (hj : j < c.rts.length) : ∀ s ∈ locksM (rtAt c j), 0 ≤ s ∧ s < c.secs.length ∧ ownAt (reqK c k now j).own s = j + 1 := by
  intro s hs
  rw [rt_mem hj] at hs
  obtain ⟨h0, h1⟩ := locks_in h hj s hs
  obtain ⟨i, rfl⟩ := Int.eq_ofNat_of_zero_le h0
  refine ⟨h0, h1, ?_⟩
  show ownAt (takeL ((j : Int) + 1) (locksM (rtAt c j)) k.own) i = _
  rw [rt_mem hj, takeL_at _ _ _ _ (by omega) (fun z hz => (locks_in h hj z hz).1), if_pos (by simpa using hs)]
set_option maxRecDepth 100000 in
set_option maxHeartbeats 16000000 in
theorem apart_walk {C : Cm} {w : World} (hC : C.Ok w) (a b : Int) :
    Calls Tryz.prog 7 #[C.val, .int .i64 a, .int .i64 b] w fun e w' => e = .returned (.bool true) ∧ Fr (fun _ => False) w w' := by
  have HC := Lib.hid hC
  have HF := Lib.hid ((Fr.refl (fun _ => False) w).alloc (.cells C.arr 30))
  have HI := Lib.hid (Is.new w 30 C.arr)
  have KC := fun W (f : Fr (fun _ => False) w W) => rck_any C W (hC.fr f)
  have KO := fun W (f : Fr (fun _ => False) w W) hcr => opened_any W (hC.fr f) hcr
  clear hC
  unfold Cm.val Cm.arr at *
  go_enter Tryz.func7, Tryz.ntmps7
  go_wp2_with fail
  generalize w.alloc _ = w0 at *
  refine (lives13_any _).mono ?_
  rintro _ w1 ⟨rfl, f1⟩
  have HF := Lib.hid (fr_nil HF.out f1)
  have HI := Lib.hid (HI.out.fr f1 id)
  clear f1
  generalize hcb : w.heap.size = cb at HI ⊢
  have HCB := Lib.hid hcb
  clear hcb
  obtain ⟨p0, p1, p2, p3, p4, p5, p6, p7, p8⟩ := conf_cells0 HI.out
  go_wp2_with fail
  refine (KC _ HF.out).mono ?_
  rintro _ w2 ⟨rfl, f2⟩
  have HF := Lib.hid (fr_nil HF.out f2)
  have HI := Lib.hid (HI.out.fr f2 id)
  clear f2 KC p0 p1 p2 p3 p4 p5 p6 p7 p8
  obtain ⟨p0, p1, p2, p3, p4, p5, p6, p7, p8⟩ := conf_cells0 HI.out
  by_cases hck : checkE C.cf = 0
  rotate_left
  · have d1 : (checkE C.cf == 0) = false := by simpa using hck
    have d2 : (checkE C.cf != 0) = true := by simpa using hck
    go_wp2_with fail
    go_ret
    exact ⟨rfl, HF.out⟩
  rw [hck]
  have hsm : C.l.length ≤ 24 ∧ C.cr.length ≤ 4 ∧ C.rs.length ≤ 12 := by
    have h := right_small hck
    unfold Cm.cf at h
    simpa using h
  have HSM := Lib.hid hsm
  have HCK := Lib.hid hck
  clear hck hsm
  by_cases hr : C.rs.length = 0
  · have d1 : ((C.rs.length : Int) == 0) = true := by rw [beq_iff_eq]; omega
    have d2 : (C.rs.length == 0) = true := by rw [beq_iff_eq]; omega
    go_wp2_with fail
    go_ret
    exact ⟨rfl, HF.out⟩
  have d1 : ((C.rs.length : Int) == 0) = false := by rw [beq_eq_false_iff_ne]; omega
  have d2 : (C.rs.length == 0) = false := by rw [beq_eq_false_iff_ne]; omega
  have i9 : (0 : Int) < (C.rs.length : Int) := by omega
  have i10 : (C.rs.length : Int) ≤ 12 := by have := HSM.out; omega
  obtain ⟨i, hi, hil⟩ := umod a C.rs.length (by omega) (by omega)
  obtain ⟨j, hj, hjl⟩ := umod b C.rs.length (by omega) (by omega)
  have HIL := Lib.hid hil
  have HJL := Lib.hid hjl
  clear hil hjl hr
  go_upto_region 6 with fail
  simp only [hi]
  clear hi
  go_upto_region 7 with fail
  simp only [hj]
  clear hj d1 d2 i9 i10 p0 p1 p2 p3 p4 p5 p6 p7 p8
  have i1 : (0 : Int) ≤ (i : Int) := by omega
  have i2 : (i : Int) < (C.rs.length : Int) := by have := HIL.out; omega
  have i3 : (0 : Int) ≤ (j : Int) := by omega
  have i4 : (j : Int) < (C.rs.length : Int) := by have := HJL.out; omega
  have HRA : Hid (reqM C.cf (openM C.cf) 5 i = (reqK C.cf (openM C.cf) 5 i, 0)) := Lib.hid (open_req HCK.out 5 (by unfold Cm.cf; simpa using HIL.out))
  have HGA : Hid (gateM C.cf (openM C.cf) (tmB 5) (reqM C.cf (openM C.cf) 5 i) = (reqK C.cf (openM C.cf) 5 i, 0)) := Lib.hid (by
    rw [show tmB 5 = true from rfl, gate_fit (open_fit HCK.out), HRA.out])
  go_cut [7, 8] from 44 (fun v7 v8 wx => ∃ (nb : Nat) (K2 : Km), v7 = .pointer (some ⟨nb, 0, none⟩) ∧ v8 = .int .i64 0 ∧ K2.kp = reqK C.cf (openM C.cf) 5 i ∧ Bx w2 wx nb K2)
  case first =>
    have KO := fun W (f : Fr (fun _ => False) w2 W) => KO W (fr_nil HF.out f) (by have := HSM.out; omega)
    have KR : ∀ K : Km, K.kp = openM C.cf → ∀ W, Fr (fun _ => False) w2 W → ∀ {B : Nat}, K.Own B W → Calls Tryz.prog 33 #[.agg #[.slice C.A1 C.l.length C.c1, .slice C.A2 C.js.length C.c2, .slice C.A3 C.sg.length C.c3, .slice C.A4 C.cr.length C.c4, .slice C.A5 C.rs.length C.c5, .int .i64 C.tm.age, .int .i64 C.tm.brake, .int .i64 C.tm.hold, .int .i64 C.tm.budget], K.val, .int .i64 5, .int .i64 (i : Int)] W (AnsE W (gateM C.cf (openM C.cf) (tmB 5) (reqM C.cf (openM C.cf) 5 i))) := fun K hk W f B ho => by
      have := call_Request_fit C K W (HC.out.fr (fr_nil HF.out f)) (fit_ok ho (by rw [hk]; exact open_fit HCK.out)) 5 i
      rw [hk] at this
      exact this
    have HS : Hid (∀ W, Fr (fun _ => False) w2 W → (fun Wx => Wx.cell? ⟨cb, 0, none⟩ = some (.slice C.A1 C.l.length C.c1) ∧ Wx.cell? ⟨cb, 1, none⟩ = some (.slice C.A2 C.js.length C.c2) ∧ Wx.cell? ⟨cb, 2, none⟩ = some (.slice C.A3 C.sg.length C.c3) ∧ Wx.cell? ⟨cb, 3, none⟩ = some (.slice C.A4 C.cr.length C.c4) ∧ Wx.cell? ⟨cb, 4, none⟩ = some (.slice C.A5 C.rs.length C.c5) ∧ Wx.cell? ⟨cb, 5, none⟩ = some (.int .i64 C.tm.age) ∧ Wx.cell? ⟨cb, 6, none⟩ = some (.int .i64 C.tm.brake) ∧ Wx.cell? ⟨cb, 7, none⟩ = some (.int .i64 C.tm.hold) ∧ Wx.cell? ⟨cb, 8, none⟩ = some (.int .i64 C.tm.budget)) W) := Lib.hid fun W fW => conf_cells0 (HI.out.fr fW id)
    have HG := Lib.hid (Fr.refl (fun _ => False) w2).drew
    refine wp_region_held_drew (S := (fun Wx => Wx.cell? ⟨cb, 0, none⟩ = some (.slice C.A1 C.l.length C.c1) ∧ Wx.cell? ⟨cb, 1, none⟩ = some (.slice C.A2 C.js.length C.c2) ∧ Wx.cell? ⟨cb, 2, none⟩ = some (.slice C.A3 C.sg.length C.c3) ∧ Wx.cell? ⟨cb, 3, none⟩ = some (.slice C.A4 C.cr.length C.c4) ∧ Wx.cell? ⟨cb, 4, none⟩ = some (.slice C.A5 C.rs.length C.c5) ∧ Wx.cell? ⟨cb, 5, none⟩ = some (.int .i64 C.tm.age) ∧ Wx.cell? ⟨cb, 6, none⟩ = some (.int .i64 C.tm.brake) ∧ Wx.cell? ⟨cb, 7, none⟩ = some (.int .i64 C.tm.hold) ∧ Wx.cell? ⟨cb, 8, none⟩ = some (.int .i64 C.tm.budget))) (by kernel_rfl) (HS.out _ (Fr.refl _ w2).drew) (fun hHeld => ?_)
    generalize w2.drew = wdr at *
    refine wpAnyH_take (i := 0) (oi := { dst := some 45, op := _, type := _, pos := _, after := _, guard := _ }) (v := ?_) rfl (by kernel_rfl) (by kernel_rfl) (by kernel_rfl) (fun _ _ _ h => h) (Or.inl ⟨by rfl, ?_⟩) (by assumption) ?_
    rotate_left
    · intro Wx hSw
      try dsimp only at hSw
      go_simp
      try with_reducible rfl
    try simp only [Act.put, List.setIfInBounds_toArray, List.set_cons_zero, List.set_cons_succ]
    refine wpAnyH_take (i := 1) (oi := { dst := some 46, op := _, type := _, pos := _, after := _, guard := _ }) (v := ?_) rfl (by kernel_rfl) (by kernel_rfl) (by kernel_rfl) (fun _ _ _ h => h) (Or.inl ⟨by rfl, ?_⟩) (by assumption) ?_
    rotate_left
    · intro Wx hSw
      try dsimp only at hSw
      go_simp
      try with_reducible rfl
    try simp only [Act.put, List.setIfInBounds_toArray, List.set_cons_zero, List.set_cons_succ]
    refine wpAnyH_take (i := 3) (oi := { dst := some 48, op := _, type := _, pos := _, after := _, guard := _ }) (v := ?_) rfl (by kernel_rfl) (by kernel_rfl) (by kernel_rfl) (fun _ _ _ h => h) (Or.inl ⟨by rfl, ?_⟩) (by assumption) ?_
    rotate_left
    · intro Wx hSw
      try dsimp only at hSw
      go_simp
      try with_reducible rfl
    try simp only [Act.put, List.setIfInBounds_toArray, List.set_cons_zero, List.set_cons_succ]
    refine wpAnyH_ready (rs := [2, 8]) (by kernel_rfl) (by simp) (AllReadyH.cons rfl (fun KK hKK => ?_) (AllReadyH.cons rfl (fun KK hKK => ?_) (AllReadyH.nil)))
    · go_simp
      refine (KO _ HG.out).mono ?_
      rintro _ va ⟨K1, rfl, hk1, ho1, fa⟩
      have HK1 := Lib.hid hk1
      have HO1 := Lib.hid ho1
      have HG := Lib.hid (fr_nil HG.out fa)
      have KR := KR K1 hk1
      unfold Km.val Km.arr at KR ⊢
      clear fa hk1 ho1
      refine hKK.out _ _ (HS.out _ HG.out) (fun hHeld => ?_)
      clear hKK KK
      refine wpAnyH_ready (rs := [4, 8]) (by kernel_rfl) (by simp) (AllReadyH.cons rfl (fun KK hKK => ?_) (AllReadyH.cons rfl (fun KK hKK => ?_) (AllReadyH.nil)))
      · go_simp
        refine (KR _ HG.out HO1.out).mono ?_
        rintro _ vb ⟨K2, rfl, hk2, ho2, fb⟩
        rw [HGA.out] at hk2 ⊢
        have HK2 := Lib.hid hk2
        have HO := Lib.hid (ho2.base HG.out.size)
        have HG := Lib.hid (fr_nil HG.out fb)
        clear fb hk2 ho2 KR
        unfold Km.val Km.arr
        refine hKK.out _ _ (HS.out _ HG.out) (fun hHeld => ?_)
        clear hKK KK
        refine wpAnyH_take (i := 5) (oi := { dst := some 44, op := _, type := _, pos := _, after := _, guard := _ }) (v := ?_) rfl (by kernel_rfl) (by kernel_rfl) (by kernel_rfl) (fun _ _ _ h => h) (Or.inl ⟨by rfl, ?_⟩) (by assumption) ?_
        rotate_left
        · intro Wx hSw
          try dsimp only at hSw
          go_simp
          try with_reducible rfl
        try simp only [Act.put, List.setIfInBounds_toArray, List.set_cons_zero, List.set_cons_succ]
        refine wpAnyH_take (i := 6) (oi := { dst := some 50, op := _, type := _, pos := _, after := _, guard := _ }) (v := ?_) rfl (by kernel_rfl) (by kernel_rfl) (by kernel_rfl) (fun _ _ _ h => h) (Or.inl ⟨by rfl, ?_⟩) (by assumption) ?_
        rotate_left
        · intro Wx hSw
          try dsimp only at hSw
          go_simp
          try with_reducible rfl
        try simp only [Act.put, List.setIfInBounds_toArray, List.set_cons_zero, List.set_cons_succ]
        refine wpAnyH_take (i := 7) (oi := { dst := some 51, op := _, type := _, pos := _, after := _, guard := _ }) (v := ?_) rfl (by kernel_rfl) (by kernel_rfl) (by kernel_rfl) (fun _ _ _ h => h) (Or.inl ⟨by rfl, ?_⟩) (by assumption) ?_
        rotate_left
        · intro Wx hSw
          try dsimp only at hSw
          go_simp
          try with_reducible rfl
        try simp only [Act.put, List.setIfInBounds_toArray, List.set_cons_zero, List.set_cons_succ]
        refine wpAnyH_ready (rs := [8]) (by kernel_rfl) (by simp) (AllReadyH.cons rfl (fun KK hKK => ?_) (AllReadyH.nil))
        go_simp
        have HI := Lib.hid (Is.new (vb) 35 #[.slice none 0 0, .slice none 0 0, .slice none 0 0, .slice none 0 0, .slice none 0 0, .slice none 0 0, .bool false])
        have HNB : Hid (w2.heap.size ≤ (vb).heap.size) := Lib.hid HG.out.size
        have HG9 := HG
        have HG := Lib.hid (HG.out.alloc (.cells #[.slice none 0 0, .slice none 0 0, .slice none 0 0, .slice none 0 0, .slice none 0 0, .slice none 0 0, .bool false] 35))
        have HO9 := HO
        have HO := Lib.hid (HO.out.fr ((Fr.refl (fun _ => False) (vb)).alloc (.cells #[.slice none 0 0, .slice none 0 0, .slice none 0 0, .slice none 0 0, .slice none 0 0, .slice none 0 0, .bool false] 35)) fun _ _ => id)
        refine hKK.out _ _ (HS.out _ HG.out) (fun hHeld => ?_)
        clear hKK KK
        refine wpAnyH_ready (rs := [9]) (by kernel_rfl) (by simp) (AllReadyH.cons rfl (fun KK hKK => ?_) (AllReadyH.nil))
        go_simp
        have isr := HI.out
        obtain ⟨m0, m1, m2, m3, m4, m5, m6⟩ := seven isr
        have HBN : Hid (Bx w2 ((vb).alloc (.cells #[.slice K2.A1 K2.own.length K2.c1, .slice K2.A2 K2.rts.length K2.c2, .slice K2.A3 K2.pts.length K2.c3, .slice K2.A4 K2.crs.length K2.c4, .slice K2.A5 K2.lns.length K2.c5, .slice K2.A6 K2.rss.length K2.c6, .bool K2.dirty] 35)) (vb).heap.size K2) := Lib.hid ⟨Is.new _ _ _, HO9.out.fr ((Fr.refl _ _).alloc _) fun _ _ => id, HG9.out.alloc _, HNB.out⟩
        clear isr
        (with_reducible refine hKK.out _ _ (HS.out _ HBN.out.f) (fun hHeld => ?_))
        clear hKK KK m0 m1 m2 m3 m4 m5 m6
        refine wpAnyH_take (i := 10) (oi := { dst := some 8, op := _, type := _, pos := _, after := _, guard := _ }) (v := ?_) rfl (by kernel_rfl) (by kernel_rfl) (by kernel_rfl) (fun _ _ _ h => h) (Or.inl ⟨by rfl, ?_⟩) (by assumption) ?_
        rotate_left
        · intro Wx hSw
          try dsimp only at hSw
          go_simp
          try with_reducible rfl
        try simp only [Act.put, List.setIfInBounds_toArray, List.set_cons_zero, List.set_cons_succ]
        refine wpAnyH_done (by kernel_rfl) ?_ _
        go_wp2_with fail
        go_meet
        case rel => exact ⟨_, K2, rfl, rfl, HK2.out, HBN.out⟩
      · go_simp
        have HI := Lib.hid (Is.new (va) 35 #[.slice none 0 0, .slice none 0 0, .slice none 0 0, .slice none 0 0, .slice none 0 0, .slice none 0 0, .bool false])
        have HNB : Hid (w2.heap.size ≤ (va).heap.size) := Lib.hid HG.out.size
        have HG9 := HG
        have HG := Lib.hid (HG.out.alloc (.cells #[.slice none 0 0, .slice none 0 0, .slice none 0 0, .slice none 0 0, .slice none 0 0, .slice none 0 0, .bool false] 35))
        have HO1 := Lib.hid (HO1.out.fr ((Fr.refl (fun _ => False) (va)).alloc (.cells #[.slice none 0 0, .slice none 0 0, .slice none 0 0, .slice none 0 0, .slice none 0 0, .slice none 0 0, .bool false] 35)) fun _ _ => id)
        refine hKK.out _ _ (HS.out _ HG.out) (fun hHeld => ?_)
        clear hKK KK
        refine wpAnyH_ready (rs := [4]) (by kernel_rfl) (by simp) (AllReadyH.cons rfl (fun KK hKK => ?_) (AllReadyH.nil))
        go_simp
        refine (KR _ HG.out HO1.out).mono ?_
        rintro _ vb ⟨K2, rfl, hk2, ho2, fb⟩
        rw [HGA.out] at hk2 ⊢
        have HK2 := Lib.hid hk2
        have HO := Lib.hid (ho2.base HG.out.size)
        have HG := Lib.hid (fr_nil HG.out fb)
        have HI := Lib.hid (HI.out.fr fb id)
        clear fb hk2 ho2 KR
        unfold Km.val Km.arr
        refine hKK.out _ _ (HS.out _ HG.out) (fun hHeld => ?_)
        clear hKK KK
        refine wpAnyH_take (i := 5) (oi := { dst := some 44, op := _, type := _, pos := _, after := _, guard := _ }) (v := ?_) rfl (by kernel_rfl) (by kernel_rfl) (by kernel_rfl) (fun _ _ _ h => h) (Or.inl ⟨by rfl, ?_⟩) (by assumption) ?_
        rotate_left
        · intro Wx hSw
          try dsimp only at hSw
          go_simp
          try with_reducible rfl
        try simp only [Act.put, List.setIfInBounds_toArray, List.set_cons_zero, List.set_cons_succ]
        refine wpAnyH_take (i := 6) (oi := { dst := some 50, op := _, type := _, pos := _, after := _, guard := _ }) (v := ?_) rfl (by kernel_rfl) (by kernel_rfl) (by kernel_rfl) (fun _ _ _ h => h) (Or.inl ⟨by rfl, ?_⟩) (by assumption) ?_
        rotate_left
        · intro Wx hSw
          try dsimp only at hSw
          go_simp
          try with_reducible rfl
        try simp only [Act.put, List.setIfInBounds_toArray, List.set_cons_zero, List.set_cons_succ]
        refine wpAnyH_take (i := 7) (oi := { dst := some 51, op := _, type := _, pos := _, after := _, guard := _ }) (v := ?_) rfl (by kernel_rfl) (by kernel_rfl) (by kernel_rfl) (fun _ _ _ h => h) (Or.inl ⟨by rfl, ?_⟩) (by assumption) ?_
        rotate_left
        · intro Wx hSw
          try dsimp only at hSw
          go_simp
          try with_reducible rfl
        try simp only [Act.put, List.setIfInBounds_toArray, List.set_cons_zero, List.set_cons_succ]
        refine wpAnyH_ready (rs := [9]) (by kernel_rfl) (by simp) (AllReadyH.cons rfl (fun KK hKK => ?_) (AllReadyH.nil))
        have isr := HI.out
        obtain ⟨m0, m1, m2, m3, m4, m5, m6⟩ := seven isr
        have z0 := isr.frozen 0
        have z1 := isr.frozen 1
        have z2 := isr.frozen 2
        have z3 := isr.frozen 3
        have z4 := isr.frozen 4
        have z5 := isr.frozen 5
        have z6 := isr.frozen 6
        go_simp
        have isR := (((((((isr.set 0 (.slice K2.A1 K2.own.length K2.c1)).set 1 (.slice K2.A2 K2.rts.length K2.c2)).set 2 (.slice K2.A3 K2.pts.length K2.c3)).set 3 (.slice K2.A4 K2.crs.length K2.c4)).set 4 (.slice K2.A5 K2.lns.length K2.c5)).set 5 (.slice K2.A6 K2.rss.length K2.c6)).set 6 (.bool K2.dirty))
        have fR := ((((((((Fr.refl (fun q => q = (va).heap.size) (vb)).setCell (p := ⟨(va).heap.size, 0, none⟩) (.inl rfl) (.slice K2.A1 K2.own.length K2.c1)).setCell (p := ⟨(va).heap.size, 1, none⟩) (.inl rfl) (.slice K2.A2 K2.rts.length K2.c2)).setCell (p := ⟨(va).heap.size, 2, none⟩) (.inl rfl) (.slice K2.A3 K2.pts.length K2.c3)).setCell (p := ⟨(va).heap.size, 3, none⟩) (.inl rfl) (.slice K2.A4 K2.crs.length K2.c4)).setCell (p := ⟨(va).heap.size, 4, none⟩) (.inl rfl) (.slice K2.A5 K2.lns.length K2.c5)).setCell (p := ⟨(va).heap.size, 5, none⟩) (.inl rfl) (.slice K2.A6 K2.rss.length K2.c6)).setCell (p := ⟨(va).heap.size, 6, none⟩) (.inl rfl) (.bool K2.dirty))
        simp only [List.setIfInBounds_toArray, List.set_cons_zero, List.set_cons_succ] at isR
        have HBN : Hid (Bx w2 ((((((((vb).setCell ⟨(va).heap.size, 0, none⟩ (.slice K2.A1 K2.own.length K2.c1)).setCell ⟨(va).heap.size, 1, none⟩ (.slice K2.A2 K2.rts.length K2.c2)).setCell ⟨(va).heap.size, 2, none⟩ (.slice K2.A3 K2.pts.length K2.c3)).setCell ⟨(va).heap.size, 3, none⟩ (.slice K2.A4 K2.crs.length K2.c4)).setCell ⟨(va).heap.size, 4, none⟩ (.slice K2.A5 K2.lns.length K2.c5)).setCell ⟨(va).heap.size, 5, none⟩ (.slice K2.A6 K2.rss.length K2.c6)).setCell ⟨(va).heap.size, 6, none⟩ (.bool K2.dirty)) (va).heap.size K2) := Lib.hid ⟨isR, HO.out.fr fR fun k hk e => HO.out.ne_is isr (by decide) (by decide) (by decide) (by decide) (e ▸ hk), (((((((HG.out.setCell (p := ⟨(va).heap.size, 0, none⟩) (.inr HNB.out) (.slice K2.A1 K2.own.length K2.c1)).setCell (p := ⟨(va).heap.size, 1, none⟩) (.inr HNB.out) (.slice K2.A2 K2.rts.length K2.c2)).setCell (p := ⟨(va).heap.size, 2, none⟩) (.inr HNB.out) (.slice K2.A3 K2.pts.length K2.c3)).setCell (p := ⟨(va).heap.size, 3, none⟩) (.inr HNB.out) (.slice K2.A4 K2.crs.length K2.c4)).setCell (p := ⟨(va).heap.size, 4, none⟩) (.inr HNB.out) (.slice K2.A5 K2.lns.length K2.c5)).setCell (p := ⟨(va).heap.size, 5, none⟩) (.inr HNB.out) (.slice K2.A6 K2.rss.length K2.c6)).setCell (p := ⟨(va).heap.size, 6, none⟩) (.inr HNB.out) (.bool K2.dirty)), HNB.out⟩
        clear isR fR isr
        (with_reducible refine hKK.out _ _ (HS.out _ HBN.out.f) (fun hHeld => ?_))
        clear hKK KK m0 m1 m2 m3 m4 m5 m6 z0 z1 z2 z3 z4 z5 z6
        refine wpAnyH_take (i := 10) (oi := { dst := some 8, op := _, type := _, pos := _, after := _, guard := _ }) (v := ?_) rfl (by kernel_rfl) (by kernel_rfl) (by kernel_rfl) (fun _ _ _ h => h) (Or.inl ⟨by rfl, ?_⟩) (by assumption) ?_
        rotate_left
        · intro Wx hSw
          try dsimp only at hSw
          go_simp
          try with_reducible rfl
        try simp only [Act.put, List.setIfInBounds_toArray, List.set_cons_zero, List.set_cons_succ]
        refine wpAnyH_done (by kernel_rfl) ?_ _
        go_wp2_with fail
        go_meet
        case rel => exact ⟨_, K2, rfl, rfl, HK2.out, HBN.out⟩
    · go_simp
      have HI := Lib.hid (Is.new (wdr) 35 #[.slice none 0 0, .slice none 0 0, .slice none 0 0, .slice none 0 0, .slice none 0 0, .slice none 0 0, .bool false])
      have HNB : Hid (w2.heap.size ≤ (wdr).heap.size) := Lib.hid HG.out.size
      have HG9 := HG
      have HG := Lib.hid (HG.out.alloc (.cells #[.slice none 0 0, .slice none 0 0, .slice none 0 0, .slice none 0 0, .slice none 0 0, .slice none 0 0, .bool false] 35))
      refine hKK.out _ _ (HS.out _ HG.out) (fun hHeld => ?_)
      clear hKK KK
      refine wpAnyH_ready (rs := [2]) (by kernel_rfl) (by simp) (AllReadyH.cons rfl (fun KK hKK => ?_) (AllReadyH.nil))
      go_simp
      refine (KO _ HG.out).mono ?_
      rintro _ va ⟨K1, rfl, hk1, ho1, fa⟩
      have HK1 := Lib.hid hk1
      have HO1 := Lib.hid ho1
      have HG := Lib.hid (fr_nil HG.out fa)
      have HI := Lib.hid (HI.out.fr fa id)
      have KR := KR K1 hk1
      unfold Km.val Km.arr at KR ⊢
      clear fa hk1 ho1
      refine hKK.out _ _ (HS.out _ HG.out) (fun hHeld => ?_)
      clear hKK KK
      refine wpAnyH_ready (rs := [4]) (by kernel_rfl) (by simp) (AllReadyH.cons rfl (fun KK hKK => ?_) (AllReadyH.nil))
      go_simp
      refine (KR _ HG.out HO1.out).mono ?_
      rintro _ vb ⟨K2, rfl, hk2, ho2, fb⟩
      rw [HGA.out] at hk2 ⊢
      have HK2 := Lib.hid hk2
      have HO := Lib.hid (ho2.base HG.out.size)
      have HG := Lib.hid (fr_nil HG.out fb)
      have HI := Lib.hid (HI.out.fr fb id)
      clear fb hk2 ho2 KR
      unfold Km.val Km.arr
      refine hKK.out _ _ (HS.out _ HG.out) (fun hHeld => ?_)
      clear hKK KK
      refine wpAnyH_take (i := 5) (oi := { dst := some 44, op := _, type := _, pos := _, after := _, guard := _ }) (v := ?_) rfl (by kernel_rfl) (by kernel_rfl) (by kernel_rfl) (fun _ _ _ h => h) (Or.inl ⟨by rfl, ?_⟩) (by assumption) ?_
      rotate_left
      · intro Wx hSw
        try dsimp only at hSw
        go_simp
        try with_reducible rfl
      try simp only [Act.put, List.setIfInBounds_toArray, List.set_cons_zero, List.set_cons_succ]
      refine wpAnyH_take (i := 6) (oi := { dst := some 50, op := _, type := _, pos := _, after := _, guard := _ }) (v := ?_) rfl (by kernel_rfl) (by kernel_rfl) (by kernel_rfl) (fun _ _ _ h => h) (Or.inl ⟨by rfl, ?_⟩) (by assumption) ?_
      rotate_left
      · intro Wx hSw
        try dsimp only at hSw
        go_simp
        try with_reducible rfl
      try simp only [Act.put, List.setIfInBounds_toArray, List.set_cons_zero, List.set_cons_succ]
      refine wpAnyH_take (i := 7) (oi := { dst := some 51, op := _, type := _, pos := _, after := _, guard := _ }) (v := ?_) rfl (by kernel_rfl) (by kernel_rfl) (by kernel_rfl) (fun _ _ _ h => h) (Or.inl ⟨by rfl, ?_⟩) (by assumption) ?_
      rotate_left
      · intro Wx hSw
        try dsimp only at hSw
        go_simp
        try with_reducible rfl
      try simp only [Act.put, List.setIfInBounds_toArray, List.set_cons_zero, List.set_cons_succ]
      refine wpAnyH_ready (rs := [9]) (by kernel_rfl) (by simp) (AllReadyH.cons rfl (fun KK hKK => ?_) (AllReadyH.nil))
      have isr := HI.out
      obtain ⟨m0, m1, m2, m3, m4, m5, m6⟩ := seven isr
      have z0 := isr.frozen 0
      have z1 := isr.frozen 1
      have z2 := isr.frozen 2
      have z3 := isr.frozen 3
      have z4 := isr.frozen 4
      have z5 := isr.frozen 5
      have z6 := isr.frozen 6
      go_simp
      have isR := (((((((isr.set 0 (.slice K2.A1 K2.own.length K2.c1)).set 1 (.slice K2.A2 K2.rts.length K2.c2)).set 2 (.slice K2.A3 K2.pts.length K2.c3)).set 3 (.slice K2.A4 K2.crs.length K2.c4)).set 4 (.slice K2.A5 K2.lns.length K2.c5)).set 5 (.slice K2.A6 K2.rss.length K2.c6)).set 6 (.bool K2.dirty))
      have fR := ((((((((Fr.refl (fun q => q = (wdr).heap.size) (vb)).setCell (p := ⟨(wdr).heap.size, 0, none⟩) (.inl rfl) (.slice K2.A1 K2.own.length K2.c1)).setCell (p := ⟨(wdr).heap.size, 1, none⟩) (.inl rfl) (.slice K2.A2 K2.rts.length K2.c2)).setCell (p := ⟨(wdr).heap.size, 2, none⟩) (.inl rfl) (.slice K2.A3 K2.pts.length K2.c3)).setCell (p := ⟨(wdr).heap.size, 3, none⟩) (.inl rfl) (.slice K2.A4 K2.crs.length K2.c4)).setCell (p := ⟨(wdr).heap.size, 4, none⟩) (.inl rfl) (.slice K2.A5 K2.lns.length K2.c5)).setCell (p := ⟨(wdr).heap.size, 5, none⟩) (.inl rfl) (.slice K2.A6 K2.rss.length K2.c6)).setCell (p := ⟨(wdr).heap.size, 6, none⟩) (.inl rfl) (.bool K2.dirty))
      simp only [List.setIfInBounds_toArray, List.set_cons_zero, List.set_cons_succ] at isR
      have HBN : Hid (Bx w2 ((((((((vb).setCell ⟨(wdr).heap.size, 0, none⟩ (.slice K2.A1 K2.own.length K2.c1)).setCell ⟨(wdr).heap.size, 1, none⟩ (.slice K2.A2 K2.rts.length K2.c2)).setCell ⟨(wdr).heap.size, 2, none⟩ (.slice K2.A3 K2.pts.length K2.c3)).setCell ⟨(wdr).heap.size, 3, none⟩ (.slice K2.A4 K2.crs.length K2.c4)).setCell ⟨(wdr).heap.size, 4, none⟩ (.slice K2.A5 K2.lns.length K2.c5)).setCell ⟨(wdr).heap.size, 5, none⟩ (.slice K2.A6 K2.rss.length K2.c6)).setCell ⟨(wdr).heap.size, 6, none⟩ (.bool K2.dirty)) (wdr).heap.size K2) := Lib.hid ⟨isR, HO.out.fr fR fun k hk e => HO.out.ne_is isr (by decide) (by decide) (by decide) (by decide) (e ▸ hk), (((((((HG.out.setCell (p := ⟨(wdr).heap.size, 0, none⟩) (.inr HNB.out) (.slice K2.A1 K2.own.length K2.c1)).setCell (p := ⟨(wdr).heap.size, 1, none⟩) (.inr HNB.out) (.slice K2.A2 K2.rts.length K2.c2)).setCell (p := ⟨(wdr).heap.size, 2, none⟩) (.inr HNB.out) (.slice K2.A3 K2.pts.length K2.c3)).setCell (p := ⟨(wdr).heap.size, 3, none⟩) (.inr HNB.out) (.slice K2.A4 K2.crs.length K2.c4)).setCell (p := ⟨(wdr).heap.size, 4, none⟩) (.inr HNB.out) (.slice K2.A5 K2.lns.length K2.c5)).setCell (p := ⟨(wdr).heap.size, 5, none⟩) (.inr HNB.out) (.slice K2.A6 K2.rss.length K2.c6)).setCell (p := ⟨(wdr).heap.size, 6, none⟩) (.inr HNB.out) (.bool K2.dirty)), HNB.out⟩
      clear isR fR isr
      (with_reducible refine hKK.out _ _ (HS.out _ HBN.out.f) (fun hHeld => ?_))
      clear hKK KK m0 m1 m2 m3 m4 m5 m6 z0 z1 z2 z3 z4 z5 z6
      refine wpAnyH_take (i := 10) (oi := { dst := some 8, op := _, type := _, pos := _, after := _, guard := _ }) (v := ?_) rfl (by kernel_rfl) (by kernel_rfl) (by kernel_rfl) (fun _ _ _ h => h) (Or.inl ⟨by rfl, ?_⟩) (by assumption) ?_
      rotate_left
      · intro Wx hSw
        try dsimp only at hSw
        go_simp
        try with_reducible rfl
      try simp only [Act.put, List.setIfInBounds_toArray, List.set_cons_zero, List.set_cons_succ]
      refine wpAnyH_done (by kernel_rfl) ?_ _
      go_wp2_with fail
      go_meet
      case rel => exact ⟨_, K2, rfl, rfl, HK2.out, HBN.out⟩
  case rest =>
    obtain ⟨nb, K, rfl, rfl, hkp, hbx⟩ := hcut
    clear KO HGA HRA
    have HKP := Lib.hid hkp
    have HFIT : Hid (FitP C.cf K.kp) := Lib.hid (by
      rw [hkp]
      have hI : i < C.cf.rts.length := by unfold Cm.cf; simpa using HIL.out
      have h9 := open_req HCK.out 5 hI
      have := req_ok (open_fit HCK.out) (now := 5) (by decide) (i : Int)
      rw [h9] at this
      exact this)
    have HB := Lib.hid hbx
    have HF := Lib.hid (fr_nil HF.out hbx.f)
    have HI := Lib.hid (HI.out.fr hbx.f id)
    have HKO : Hid (K.Ok wc) := Lib.hid (fit_ok hbx.own HFIT.out)
    clear hkp hbx
    go_upto_region 8 with fail
    generalize hw : wc = w3 at *
    clear hw
    have HRL : Hid (K.rts = (openM C.cf).rts.set i ⟨1, 0, 0, 0⟩) := Lib.hid (by
      have h : K.rts = (openM C.cf).rts.set (Int.toNat (i : Int)) ⟨1, 0, 0, 0⟩ := congrArg Kp.rts HKP.out
      rw [Int.toNat_natCast] at h
      exact h)
    have hil2 : i < K.rts.length := by
      have h : K.rts.length = C.cf.rts.length := HFIT.out.l2
      rw [h]; unfold Cm.cf; simpa using HIL.out
    have hjl2 : j < K.rts.length := by
      have h : K.rts.length = C.cf.rts.length := HFIT.out.l2
      rw [h]; unfold Cm.cf; simpa using HJL.out
    have HRI : Hid (K.rts[i]'hil2 = ⟨1, 0, 0, 0⟩) := Lib.hid (by simp [HRL.out])
    have HIL2 := Lib.hid hil2
    have HJL2 := Lib.hid hjl2
    obtain ⟨g2, o2, a2, r0, -, -, -⟩ := rd_rs (wide_rd HB.out.own.rts) hil2
    rw [HRI.out] at r0
    dsimp only at r0
    have c1 := HB.out.is.cell 1
    simp only [Km.arr, List.getElem?_toArray, List.getElem?_cons_succ, List.getElem?_cons_zero] at c1
    rw [a2] at c1
    have i5 : (i : Int) < (K.rts.length : Int) := by omega
    clear a2
    obtain ⟨p0, p1, p2, p3, p4, p5, p6, p7, p8⟩ := conf_cells0 HI.out
    have KL := rlocks_any C (i : Int) w3 (HC.out.fr HF.out) (locks_short HCK.out)
    unfold Cm.val Cm.arr at KL
    go_wp2_with fail
    refine KL.mono ?_
    rintro _ w4 ⟨AL, cL, rfl, ol, f4⟩
    have HOL := Lib.hid ol
    have HG4 := Lib.hid f4
    have HLK : Hid (∀ s ∈ locksR C (i : Int), 0 ≤ s ∧ s < K.own.length ∧ ownAt K.own s = i + 1) := Lib.hid fun s hs => by
      rw [locksR_at HIL.out] at hs
      have hI : i < C.cf.rts.length := by unfold Cm.cf; simpa using HIL.out
      have q := locked_own HCK.out (k := openM C.cf) (by simp [openM]) (now := 5) hI s (by rw [rt_ro HIL.out]; exact hs)
      have e1 : K.own = (reqK C.cf (openM C.cf) 5 i).own := congrArg Kp.own HKP.out
      have l1 : K.own.length = C.cf.secs.length := HFIT.out.l1
      rw [← e1] at q
      exact ⟨q.1, by rw [l1]; exact q.2.1, q.2.2⟩
    clear KL ol f4 p0 p1 p2 p3 p4 p5 p6 p7 p8 c1 r0 i5
    generalize hL : locksR C (i : Int) = L at *
    clear hL
    have i6 : (i : Int) ≤ 12 := by have := HSM.out; omega
    go_wp2_with fail
    go_loopw [67] (fun v wr => ∃ k, k ≤ L.length ∧ v = .int .i64 (k : Nat) ∧ Fr (fun _ => False) w4 wr) (fun v _ => L.length - (intOf v).toNat)
    case atStart => exact ⟨0, Nat.zero_le _, rfl, Fr.refl _ _⟩
    case round =>
      obtain ⟨k, hk, rfl, f⟩ := hrel
      by_cases hlt : k < L.length
      · obtain ⟨g, p, hA1, q0⟩ := rd_int ((wide_rd HOL.out).fr f fun _ _ => id) hlt
        obtain ⟨s0, s1, s2⟩ := HLK.out _ (List.getElem_mem hlt)
        have hln : L.length ≤ 9223372036854775807 := by
          have := own_len9 HOL.out
          omega
        generalize L[k] = x at *
        obtain ⟨t, rfl⟩ := Int.eq_ofNat_of_zero_le s0
        have ht : t < K.own.length := by omega
        rw [ownAt_lt ht] at s2
        obtain ⟨g1, o1, hA2, q1⟩ := rd_int (wide_rd (wide_fr HB.out.own.own (fr_nil HG4.out f) fun _ _ => id)) ht
        rw [s2] at q1
        have c0 := (HB.out.is.fr (fr_nil HG4.out f) id).cell 0
        simp only [Km.arr, List.getElem?_toArray, List.getElem?_cons_zero] at c0
        rw [hA2] at c0
        have t1 : (0 : Int) ≤ (k : Int) := by omega
        have t2 : (k : Int) < (L.length : Int) := by omega
        have t3 : (L.length : Int) ≤ 9223372036854775807 := by omega
        have t4 : (t : Int) < (K.own.length : Int) := by omega
        have HFW := Lib.hid f
        have HLT := Lib.hid hlt
        rw [hA1]
        have HA1 := Lib.hid hA1
        clear hA1 hA2 s2 f hlt hk hln
        go_wp2_with fail
        try rw [← HA1.out]
        go_roundw
        case rel => exact ⟨k + 1, by have := HLT.out; omega, by go_num, HFW.out⟩
        case measure => have := HLT.out; simp [intOf]; omega
      · have hkn : k = L.length := by omega
        subst hkn
        have HF5 := Lib.hid (fr_nil HG4.out f)
        clear hlt hk f
        have HB := Lib.hid (HB.out.fr HF5.out)
        have HF := Lib.hid (fr_nil HF.out HF5.out)
        have HI := Lib.hid (HI.out.fr HF5.out id)
        have HKO := Lib.hid (HKO.out.fr HF5.out)
        clear HOL HLK HG4 HF5
        go_upto_region 16 with fail
        generalize hw : wr = w5 at *
        clear hw
        have KQ := call_Request_fit C K w5 (HC.out.fr HF.out) HKO.out 6 j
        rw [show tmB 6 = true from rfl, gate_fit HFIT.out] at KQ
        unfold Cm.val Cm.arr Km.val Km.arr at KQ
        have HM : Hid (reqM C.cf K.kp 6 j = if reqE C.cf K.kp j = 0 then (reqK C.cf K.kp 6 j, 0) else (K.kp, reqE C.cf K.kp j)) := Lib.hid (by
          unfold reqM
          rw [isSec_true (by unfold Cm.cf; simpa using HJL.out), if_neg (by decide)])
        obtain ⟨p0, p1, p2, p3, p4, p5, p6, p7, p8⟩ := conf_cells0 HI.out
        obtain ⟨k0, k1, k2, k3, k4, k5, k6⟩ := core_cells (K := K) HB.out.is
        go_wp2_with fail
        refine KQ.mono ?_
        rintro _ wq ⟨K2, rfl, hk2, ho2, f2⟩
        clear KQ p0 p1 p2 p3 p4 p5 p6 p7 p8 k0 k1 k2 k3 k4 k5 k6
        have HB2 := Lib.hid (bx_made ho2 f2)
        clear ho2 f2
        rw [HM.out] at hk2 ⊢
        clear HM
        by_cases he : reqE C.cf K.kp j = 0
        · rw [if_pos he] at hk2 ⊢
          obtain ⟨hij, hap⟩ := apart_plain HCK.out (now := 5) (a := i) (b := j) (by unfold Cm.cf; simpa using HIL.out) (by unfold Cm.cf; simpa using HJL.out) (by rw [← HKP.out]; exact he)
          have HR2 : Hid (K2.rts = K.rts.set j ⟨1, 0, 0, 0⟩) := Lib.hid (by
            have h : K2.rts = K.rts.set (Int.toNat (j : Int)) ⟨1, 0, 0, 0⟩ := congrArg Kp.rts hk2
            rw [Int.toNat_natCast] at h
            exact h)
          have HIJ := Lib.hid hij
          have HAP : Hid (∀ x ∈ (C.rs[i]'HIL.out).path, ∀ y ∈ (C.rs[j]'HJL.out).path, x.sec ≠ y.sec) := Lib.hid fun x hx y hy => hap x (by unfold Cm.cf; simpa [Ro.rt] using hx) y (by unfold Cm.cf; simpa [Ro.rt] using hy)
          clear hk2 he hij hap
          unfold Km.val Km.arr
          dsimp only
          go_upto_region 18 with fail
          generalize hw6 : World.alloc _ _ = w6 at *
          generalize wq.heap.size = nb2 at *
          clear hw6
          have HF := Lib.hid (fr_nil HF.out HB2.out.f)
          have HI := Lib.hid (HI.out.fr HB2.out.f id)
          have HB := Lib.hid (HB.out.fr HB2.out.f)
          have HC6 := Lib.hid (HC.out.fr HF.out)
          obtain ⟨g, o, hA5, -, -, r2, -, -, -⟩ := rd_ro HC6.out.rts HIL.out
          have p4 := HI.out.cell 4
          simp only [List.getElem?_toArray, List.getElem?_cons_succ, List.getElem?_cons_zero] at p4
          rw [hA5] at p4
          have HOa := Lib.hid (HC6.out.each _ (List.getElem_mem HIL.out))
          have HOb := Lib.hid (HC6.out.each _ (List.getElem_mem HJL.out))
          have HRJ := Lib.hid (rd_ro HC6.out.rts HJL.out)
          have HPa := Lib.hid HOa.out.b1
          have HPb := Lib.hid HOb.out.b1
          generalize C.rs[i]'HIL.out = ra at *
          generalize C.rs[j]'HJL.out = rb at *
          have HA5 := Lib.hid hA5
          clear hA5
          go_wp2_with fail
          clear p4 r2
          go_loopw [96] (fun v wr => ∃ k, k ≤ ra.path.length ∧ v = .int .i64 (k : Nat) ∧ Fr (fun _ => False) w6 wr) (fun v _ => ra.path.length - (intOf v).toNat)
          case atStart => exact ⟨0, Nat.zero_le _, rfl, Fr.refl _ _⟩
          case round =>
            obtain ⟨k, hk, rfl, f⟩ := hrel
            by_cases hlt : k < ra.path.length
            · obtain ⟨ga, oa, hAa, x0, x1, x2⟩ := rd_st (HOa.out.path.fr f fun _ _ => id) hlt
              have HX : Hid (∀ y ∈ rb.path, (ra.path[k]'hlt).sec ≠ y.sec) := Lib.hid (HAP.out _ (List.getElem_mem hlt))
              obtain ⟨gb, ob, hB5, -, -, y2, -, -, -⟩ := HRJ.out
              have p4 := (HI.out.fr f id).cell 4
              simp only [List.getElem?_toArray, List.getElem?_cons_succ, List.getElem?_cons_zero] at p4
              rw [hB5] at p4
              have y2 := (f.cell (p := ⟨gb, ob + j * 6 + 2, none⟩) (World.block_lt_of_cell? _ _ y2) id).trans y2
              have t1 : (0 : Int) ≤ (k : Int) := by omega
              have t2 : (k : Int) < (ra.path.length : Int) := by omega
              have t3 : (ra.path.length : Int) ≤ 9223372036854775807 := by have := HPa.out; omega
              have HFW := Lib.hid f
              have HLT := Lib.hid hlt
              generalize ra.path[k]'hlt = x at *
              obtain ⟨xs, xi, xo⟩ := x
              dsimp only at x0 x1 x2 HX
              rw [hAa]
              have HAa := Lib.hid hAa
              clear hAa hB5 hlt hk f
              go_upto_region 21 with fail
              have HB3 := Lib.hid (Is.new wr 76 #[.int .i64 xs, .int .i64 xi, .int .i64 xo])
              have HFA := Lib.hid ((Fr.refl (fun _ => False) wr).alloc (.cells #[.int .i64 xs, .int .i64 xi, .int .i64 xo] 76))
              have p4 := (HFA.out.cell (p := ⟨cb, 4, none⟩) (World.block_lt_of_cell? _ _ p4) id).trans p4
              have y2 := (HFA.out.cell (p := ⟨gb, ob + j * 6 + 2, none⟩) (World.block_lt_of_cell? _ _ y2) id).trans y2
              generalize hwx : wr.alloc _ = wx at *
              generalize wr.heap.size = xb at *
              clear hwx x0 x1 x2
              go_wp2_with fail
              clear p4 y2
              go_loopw [107] (fun v wi => ∃ q, q ≤ rb.path.length ∧ v = .int .i64 (q : Nat) ∧ Fr (fun _ => False) wx wi) (fun v _ => rb.path.length - (intOf v).toNat)
              case atStart => exact ⟨0, Nat.zero_le _, rfl, Fr.refl _ _⟩
              case round =>
                obtain ⟨q, hq, rfl, fi⟩ := hrel
                by_cases hqt : q < rb.path.length
                · obtain ⟨gc, oc, hAc, y0, y1, y2⟩ := rd_st (HOb.out.path.fr (fr_nil (fr_nil HFW.out HFA.out) fi) fun _ _ => id) hqt
                  have hxy := HX.out _ (List.getElem_mem hqt)
                  have HQT := Lib.hid hqt
                  generalize rb.path[q]'hqt = y at *
                  obtain ⟨ys, yi, yo⟩ := y
                  dsimp only at y0 y1 y2 hxy
                  have e1 : (xs == ys) = false := by simpa using hxy
                  have cx := ((HB3.out.fr fi id).alloc (.cells #[.int .i64 ys, .int .i64 yi, .int .i64 yo] 76)).cell 0
                  simp only [List.getElem?_toArray, List.getElem?_cons_zero] at cx
                  have u1 : (0 : Int) ≤ (q : Int) := by omega
                  have u2 : (q : Int) < (rb.path.length : Int) := by omega
                  have u3 : (rb.path.length : Int) ≤ 9223372036854775807 := by have := HPb.out; omega
                  have HFI := Lib.hid fi
                  rw [hAc]
                  have HAc := Lib.hid hAc
                  clear hAc hxy hqt hq fi
                  go_wp2_with fail
                  try rw [← HAc.out]
                  go_roundw
                  case rel => exact ⟨q + 1, by have := HQT.out; omega, by go_num, HFI.out.alloc _⟩
                  case measure => have := HQT.out; simp [intOf]; omega
                · have hqn : q = rb.path.length := by omega
                  subst hqn
                  have HFI := Lib.hid (fr_nil (fr_nil HFW.out HFA.out) fi)
                  clear hqt hq fi
                  go_wp2_with fail
                  try rw [← HAa.out]
                  go_roundw
                  case rel => exact ⟨k + 1, by have := HLT.out; omega, by go_num, HFI.out⟩
                  case measure => have := HLT.out; simp [intOf]; omega
            · have hkn : k = ra.path.length := by omega
              subst hkn
              have HB := Lib.hid (HB.out.fr f)
              have HB2 := Lib.hid (HB2.out.fr f)
              have HF := Lib.hid (fr_nil HF.out f)
              clear hlt hk f
              have l2 : K2.rts.length = K.rts.length := by rw [HR2.out, List.length_set]
              have hi3 : i < K2.rts.length := by rw [l2]; exact HIL2.out
              have hj3 : j < K2.rts.length := by rw [l2]; exact HJL2.out
              have v1 : K2.rts[i]'hi3 = ⟨1, 0, 0, 0⟩ := by
                have := HRI.out
                simp [HR2.out, HIJ.out.symm, this]
              have v2 : K2.rts[j]'hj3 = ⟨1, 0, 0, 0⟩ := by simp [HR2.out]
              obtain ⟨g1, o1, a1, s0, s1, s2, s3⟩ := rd_rs (wide_rd HB.out.own.rts) HIL2.out
              obtain ⟨g2, o2, a2, m0, m1, m2, m3⟩ := rd_rs (wide_rd HB2.out.own.rts) hi3
              obtain ⟨g3, o3, a3, n0, -, -, -⟩ := rd_rs (wide_rd HB2.out.own.rts) hj3
              rw [a2] at a3
              injection a3 with a3
              injection a3 with a3 a4
              subst a3 a4
              rw [HRI.out] at s0 s1 s2 s3
              rw [v1] at m0 m1 m2 m3
              rw [v2] at n0
              dsimp only at s0 s1 s2 s3 m0 m1 m2 m3 n0
              have c1 := HB.out.is.cell 1
              have c2 := HB2.out.is.cell 1
              simp only [Km.arr, List.getElem?_toArray, List.getElem?_cons_succ, List.getElem?_cons_zero] at c1 c2
              rw [a1] at c1
              rw [a2, l2] at c2
              have t1 : (i : Int) < (K.rts.length : Int) := by have := HIL2.out; omega
              have t2 : (j : Int) < (K.rts.length : Int) := by have := HJL2.out; omega
              have e1 : ((i : Int) == (j : Int)) = false := by rw [beq_eq_false_iff_ne]; have := HIJ.out; omega
              have e2 : ((i : Int) != (j : Int)) = true := by rw [bne_iff_ne]; have := HIJ.out; omega
              have e3 : (i == j) = false := by rw [beq_eq_false_iff_ne]; exact HIJ.out
              have e4 : (i != j) = true := by rw [bne_iff_ne]; exact HIJ.out
              clear a1 a2 v1 v2 l2 hi3 hj3
              go_wp2_with fail
              go_quiet (fail)
              go_wp2_with fail
              go_ret
              exact ⟨rfl, HF.out.drewN nq⟩
        · rw [if_neg he] at hk2 ⊢
          have e1 : (reqE C.cf K.kp j == 0) = false := by simpa using he
          have HK2 := Lib.hid hk2
          clear hk2 he
          unfold Km.val Km.arr
          dsimp only
          generalize reqE C.cf K.kp j = ev at *
          go_upto_region 29 with fail
          generalize hw6 : World.alloc _ _ = w6 at *
          generalize wq.heap.size = nb2 at *
          clear hw6 e1
          have KS := same_any K2 K w6 (fit_ok HB2.out.own (by rw [HK2.out]; exact HFIT.out)) (HKO.out.fr HB2.out.f) HK2.out
          unfold Km.val Km.arr at KS
          obtain ⟨k0, k1, k2, k3, k4, k5, k6⟩ := core_cells (K := K) (HB.out.is.fr HB2.out.f id)
          obtain ⟨m0, m1, m2, m3, m4, m5, m6⟩ := core_cells (K := K2) HB2.out.is
          go_wp2_with fail
          refine KS.mono ?_
          rintro _ w9 ⟨rfl, f9⟩
          have HZ := Lib.hid (fr_nil HF.out (fr_nil HB2.out.f f9))
          clear KS k0 k1 k2 k3 k4 k5 k6 m0 m1 m2 m3 m4 m5 m6 f9
          go_wp2_with fail
          go_ret
          exact ⟨rfl, HZ.out⟩
end Go.Proofs.YtginfnbdnkgjbaaGreat.Lk
/- LocksApart (P13.1): in a station whose sections are all free each route can be locked; then none with which it has a section of their paths in common can. For every configuration and every two whole numbers; no condition. -/
namespace Go.Proofs.YtginfnbdnkgjbaaGreat.locksApart
open Go.ChangeShapes Go.WideShapes Go.ChangeAt Go.RowKit
open Go.ChangeMaps (open_string shut_string)

theorem q1 : (Rows.locksApartRow.inPlace == Tryz.checked.prog.inPlace 7) = true := by kernel_rfl
theorem q2 : (Rows.locksApartRow.unfollowed == Tryz.checked.prog.unfollowed 7) = true := by kernel_rfl
theorem q3 : (Rows.locksApartRow.recurses == Tryz.checked.prog.recurses 7) = true := by kernel_rfl
theorem q4 : (Rows.locksApartRow.named == Tryz.checked.prog.varsNamed 7) = true := by kernel_rfl
theorem closed : joinedFacts Tryz.checked.prog 7 Tryz.f7 Rows.locksApartSpec Rows.locksApartRow = true := by
  unfold joinedFacts
  simp only [Bool.and_eq_true]
  and_intros
  · kernel_rfl
  · exact Lk.pf1
  · exact Lk.pf2
  · kernel_rfl
  · kernel_rfl
  · kernel_rfl
  · kernel_rfl
  · kernel_rfl
  · kernel_rfl
  · exact q1
  · exact q2
  · exact q3
  · exact q4
  · kernel_rfl
  · kernel_rfl
  · kernel_rfl
  · kernel_rfl
  · kernel_rfl
  · kernel_rfl
  · kernel_rfl
  · kernel_rfl
  · kernel_rfl
  · kernel_rfl
  · kernel_rfl
  · exact Lk.pf3
  · exact Lk.pf4
  · exact Lk.pf5
  · kernel_rfl
  · kernel_rfl
  · kernel_rfl
  · kernel_rfl
  · kernel_rfl

set_option maxRecDepth 100000 in
theorem lifted (os : Os) (started : os.Started) (H : Type) (enc : TypeId × Value → H) :
    ReturnsInHanded {} Tryz.checked os 7 .any (Rows.locksApartSpec.pre6 enc Tryz.prog Tryz.f7 Rows.locksApartRow.domain false) (Rows.locksApartSpec.post enc Tryz.prog Tryz.f7 false true false false) := by
  refine returnsInHanded_of_change_sized (C := Tryz.checked) Tryz.own started (by kernel_rfl) Tryz.func7
    (ChangeSpec.witness6 (enc := enc) (C := Tryz.checked) false ⟨#[], #[.agg #[.slice none 0 0, .slice none 0 0, .slice none 0 0, .slice none 0 0, .slice none 0 0, .int .i64 0, .int .i64 0, .int .i64 0, .int .i64 0], .int .i64 0, .int .i64 0], []⟩ 8 (by kernel_rfl) (by kernel_rfl) (by kernel_rfl) (by kernel_rfl)) ?_
  intro W base args ds gs before hval0 hW hcnd0 hsz0 _
  have hval : ∀ (j : Nat) t v, Tryz.f7.params[j]? = some t → args[j]? = some v → Value.okWide Tryz.prog W .any base t v := hval0
  have hW' := hW
  obtain ⟨p, q, hA0, hV, rfl, hfz, hnd⟩ := hW
  have hA : DataW.TrodAll enc Tryz.prog W 0 (fun _ => true) true Tryz.f7.params.toList args.toList ds p := hA0
  have hsz : (DataW.weightsEach Tryz.prog (Tryz.f7.params.toList ++ Rows.locksApartSpec.plain.varTypes Tryz.prog) (ds ++ gs)).all (· ≤ reachBytes) = true := hsz0
  rw [Tryz.params7] at hA hval hsz
  obtain ⟨v0, v1, v2, d0, d1, d2, p0, p1, p2, rfl, rfl, rfl, h0, h1, h2⟩ := trodAll_three hA
  obtain ⟨rfl, rfl⟩ := trodVars_none hV
  obtain ⟨x0, rfl, i0⟩ := open_conf (hval 0 30 v0 rfl rfl) h0
  obtain ⟨a1, rfl, rfl, rfl, w1⟩ := open_int Tryz.underlying3 (hval 1 3 v1 rfl rfl) h1
  have b1 : -9223372036854775808 ≤ a1 ∧ a1 ≤ 9223372036854775807 := by
    simp only [Lit.wf, IntKind.min, IntKind.max, IntKind.signed, IntKind.bits, Bool.and_eq_true, decide_eq_true_eq, if_true] at w1
    have := w1.1
    have := w1.2
    omega
  obtain ⟨a2, rfl, rfl, rfl, w2⟩ := open_int Tryz.underlying3 (hval 2 3 v2 rfl rfl) h2
  have b2 : -9223372036854775808 ≤ a2 ∧ a2 ≤ 9223372036854775807 := by
    simp only [Lit.wf, IntKind.min, IntKind.max, IntKind.signed, IntKind.bits, Bool.and_eq_true, decide_eq_true_eq, if_true] at w2
    have := w2.1
    have := w2.2
    omega
  have z0 := conf_ok i0 hsz (j := 0) rfl rfl
  refine (Lk.toB (Lk.apart_walk z0 a1 a2)).mono fun e W' ⟨he, hb⟩ => ?_
  subst he
  exact law_post hW' rfl (by kernel_rfl) (by rw [Tryz.params7]; exact of_decide_eq_true (by kernel_rfl)) rfl rfl rfl hb

theorem proved : Rows.LocksApartSaid :=
  OpenClaim.holds_of_wide 7 Tryz.f7 rfl rfl rfl rfl rfl rfl rfl ⟨rfl, rfl, rfl, rfl, rfl⟩ rfl rfl rfl rfl rfl (by kernel_rfl) Tryz.func7 closed
    (of_decide_eq_true (by kernel_rfl)) (by unfold Func.isWrapper; first | (rw [if_pos (by decide +kernel)]; kernel_rfl) | (rw [if_neg (by decide +kernel)]; exact ⟨rfl, rfl⟩))
    (fun os started H enc _ => lifted os started H enc)
end Go.Proofs.YtginfnbdnkgjbaaGreat.locksApart

/- The contract of the program's New: the state at the first start. -/
import Derived.Test.YtnnacdkijeoeoaaLblank
import Derived.Test.YtnnacdkijeoeoaaLsm
namespace Go.Proofs.Ytnnacdkijeoeoaa.Lk
open Go.RowKit

/-- a state that came back, put behind an address -/
theorem bx_made {w0 w : World} {K : Km} (h : K.Own w0.heap.size w) (f : Fr (fun _ => False) w0 w) : Bx w0 (w.alloc (.cells #[.slice K.A1 K.own.length K.c1, .slice K.A2 K.rts.length K.c2, .slice K.A3 K.pts.length K.c3, .slice K.A4 K.crs.length K.c4, .slice K.A5 K.lns.length K.c5, .slice K.A6 K.rss.length K.c6, .bool K.dirty] 35)) w.heap.size K :=
  ⟨Is.new w _ _, h.fr ((Fr.refl _ w).alloc _) fun _ _ => id, f.alloc _, f.size⟩
def coldM (_ : Int) : Int := -1
theorem bx_own0 {w0 v : World} {kb g j : Nat} {K : Km} {l : List Int} (h : Bx w0 v kb { K with own := fillP coldM 0 l j }) (hB : K.A1 = some ⟨g, 0, none⟩) (hj : j < l.length) :
    Hid (Bx w0 (v.setCell ⟨g, j, none⟩ (.int .i64 (-1))) kb { K with own := fillP coldM 0 l (j + 1) }) ∧ v.cell? ⟨kb, 0, none⟩ = some (.slice (some ⟨g, 0, none⟩) l.length K.c1) ∧ (∃ u, v.cell? ⟨g, j, none⟩ = some u) ∧ v.frozen? ⟨g, j, none⟩ = false := by
  have hlen := fillP_len coldM 0 l j (by omega)
  have b := h.owner (K := { K with own := fillP coldM 0 l j }) (j := j) (by show j < (fillP _ _ _ _).length; omega) hB (-1)
  refine ⟨Lib.hid ?_, ?_, ?_⟩
  · rw [← fillP_set coldM 0 l j hj]
    exact b
  · have c := h.is.cell 0
    simpa [Km.arr, hB, hlen] using c
  · have o' : v.ownsRow w0.heap.size 3 1 (.slice (some ⟨g, 0, none⟩) (fillP coldM 0 l j).length K.c1) (fillP coldM 0 l j).length ((fillP coldM 0 l j).map (Value.int .i64)) := by
      have o2 : v.ownsRow w0.heap.size 3 1 (.slice K.A1 (fillP coldM 0 l j).length K.c1) (fillP coldM 0 l j).length ((fillP coldM 0 l j).map (Value.int .i64)) := h.own.own
      rw [hB] at o2; exact o2
    obtain ⟨g', o9, e9, c0⟩ := rd_int (wide_rd o') (j := j) (by omega)
    injection e9 with e9
    injection e9 with e1 e2
    subst e1 e2
    simp only [Nat.zero_add] at c0
    exact ⟨⟨_, c0⟩, o'.frozenAt _⟩
set_option maxHeartbeats 4000000 in
set_option maxRecDepth 100000 in
theorem new_any {C : Cm} (w : World) (hC : C.Ok w) (hcr : C.cr.length * 16 ≤ 140737488351232) (now : Int) :
    Calls Try.prog 21 #[C.val, .int .i64 now] w (Back w (newM C.cf now)) := by
  have KB := fun W (f : Fr (fun _ => False) w W) => blank_any W (hC.fr f) hcr now
  have HF0 := Lib.hid (((Fr.refl (fun _ => False) w).alloc (.cells C.arr 30)).alloc (.cells #[.slice none 0 0, .slice none 0 0, .slice none 0 0, .slice none 0 0, .slice none 0 0, .slice none 0 0, .bool false] 35))
  have HIC := Lib.hid ((Is.new w 30 C.arr).alloc (.cells #[.slice none 0 0, .slice none 0 0, .slice none 0 0, .slice none 0 0, .slice none 0 0, .slice none 0 0, .bool false] 35))
  have HIR := Lib.hid (Is.new (w.alloc (.cells C.arr 30)) 35 #[.slice none 0 0, .slice none 0 0, .slice none 0 0, .slice none 0 0, .slice none 0 0, .slice none 0 0, .bool false])
  rw [show (w.alloc (.cells C.arr 30)).heap.size = w.heap.size + 1 by simp] at HIR
  have hz1 : ((w.alloc (.cells C.arr 30)).alloc (.cells #[.slice none 0 0, .slice none 0 0, .slice none 0 0, .slice none 0 0, .slice none 0 0, .slice none 0 0, .bool false] 35)).heap.size = w.heap.size + 2 := by simp
  have hcb := hC.b1
  clear hC hcr
  unfold Cm.val Cm.arr at *
  go_enter Try.func21, Try.ntmps21
  go_upto_region 1 with (fail)
  generalize ((w.alloc _).alloc _) = w1 at *
  have HN1 : Hid (w.heap.size + 2 ≤ w1.heap.size) := Lib.hid (Nat.le_of_eq hz1.symm)
  clear hz1
  obtain ⟨p0, p1, p2, p3, p4, p5, p6, p7, p8⟩ := conf_cells0 HIC.out
  go_wp2_with fail
  refine (KB _ HF0.out).mono ?_
  rintro _ w2 ⟨K, rfl, hk, ho, f2⟩
  have HKP := Lib.hid hk
  have HBX := Lib.hid (bx_made ho f2)
  clear hk ho f2 KB p0 p1 p2 p3 p4 p5 p6 p7 p8
  unfold Km.val Km.arr
  go_upto_region 2 with fail
  generalize hw3 : World.alloc _ _ = w3 at *
  generalize w2.heap.size = kb at *
  clear hw3
  have c0 : w3.cell? ⟨kb, 0, none⟩ = some (.slice K.A1 K.own.length K.c1) := HBX.out.is.cell 0
  have HE0 : Hid (K.own = fillP coldM 0 K.own 0) := Lib.hid (by
    have h : K.own = C.l.map fun _ => 0 := congrArg Kp.own HKP.out
    rw [fillP_zero]
    have e2 : K.own.length = C.l.length := by rw [h, List.length_map]
    rw [e2, h, List.map_const'])
  have HLB : Hid (K.own.length * 24 ≤ 140737488351232) := Lib.hid (by
    have h : K.own = C.l.map fun _ => 0 := congrArg Kp.own HKP.out
    rw [h, List.length_map]
    exact hcb)
  go_wp2_with fail
  clear c0
  go_loopw [13] (fun i wr => ∃ k, k ≤ K.own.length ∧ i = .int .i64 (k : Nat) ∧ Bx w1 wr kb { K with own := fillP coldM 0 K.own k }) (fun i _ => K.own.length - (intOf i).toNat)
  case atStart => exact ⟨0, Nat.zero_le _, rfl, by rw [← HE0.out]; exact HBX.out⟩
  case round =>
    clear HBX
    obtain ⟨k, hk, rfl, hbx⟩ := hrel
    have HZ := Lib.hid hbx
    clear hbx
    by_cases hlt : k < K.own.length
    · obtain ⟨g, hA, -, -⟩ := own_some HZ.out.own.own (by show 0 < (fillP _ _ _ _).length; rw [fillP_len _ _ _ _ (by omega)]; omega)
      have hA : K.A1 = some ⟨g, 0, none⟩ := hA
      obtain ⟨HVN, c0, ⟨u, cu⟩, zu⟩ := bx_own0 HZ.out hA hlt
      have i1 : (0 : Int) ≤ (k : Int) := by omega
      have i2 : (k : Int) < (K.own.length : Int) := by omega
      have i5 : (k : Int) < 140737488351232 := by have := HLB.out; omega
      clear hA HE0
      go_wp2_with fail
      go_roundw
      case rel => exact ⟨k + 1, by omega, by go_num, HVN.out⟩
      case measure => simp [intOf]; omega
    · have hkn : k = K.own.length := by omega
      subst hkn
      have HV0 : Hid (Bx w1 wr kb { K with own := K.own.map coldM }) := Lib.hid (by
        have := HZ.out
        rw [fillP_all _ _ _ _ (Nat.le_refl _)] at this
        exact this)
      have HV1 := Lib.hid (HV0.out.dirt true)
      have cd : wr.cell? ⟨kb, 6, none⟩ = some (.bool K.dirty) := HV0.out.is.cell 6
      have zd := HV0.out.is.frozen 6
      have HQ : Hid (({ K with own := K.own.map coldM, dirty := true } : Km).kp = newM C.cf now) := Lib.hid (by
        have h := HKP.out
        unfold Km.kp blankM at h
        simp only [Kp.mk.injEq] at h
        obtain ⟨h1, h2, h3, h4, h5, h6, h7⟩ := h
        unfold Km.kp newM
        simp only [Kp.mk.injEq]
        refine ⟨?_, h2, h3, h4, h5, h6, trivial⟩
        rw [h1, List.map_map]
        rfl)
      clear hlt hk HZ HKP HE0
      go_upto_region 8 with fail
      clear cd zd
      generalize ({ K with own := K.own.map coldM, dirty := true } : Km) = K3 at HQ HV1
      have HV := HV1
      clear HV1 HV0
      generalize wr.setCell ⟨kb, 6, none⟩ (.bool true) = wq at *
      obtain ⟨k0, k1, k2, k3, k4, k5, k6⟩ := core_cells (K := K3) HV.out.is
      have isr := HIR.out.fr HV.out.f id
      obtain ⟨m0, m1, m2, m3, m4, m5, m6⟩ := seven isr
      have z0x := isr.frozen 0
      have z1x := isr.frozen 1
      have z2x := isr.frozen 2
      have z3x := isr.frozen 3
      have z4x := isr.frozen 4
      have z5x := isr.frozen 5
      have z6x := isr.frozen 6
      have isR := (((((((isr.set 0 (.slice K3.A1 K3.own.length K3.c1)).set 1 (.slice K3.A2 K3.rts.length K3.c2)).set 2 (.slice K3.A3 K3.pts.length K3.c3)).set 3 (.slice K3.A4 K3.crs.length K3.c4)).set 4 (.slice K3.A5 K3.lns.length K3.c5)).set 5 (.slice K3.A6 K3.rss.length K3.c6)).set 6 (.bool K3.dirty))
      have fR := ((((((((Fr.refl (fun q => q = w.heap.size + 1) wq).setCell (p := ⟨w.heap.size + 1, 0, none⟩) (.inl rfl) (.slice K3.A1 K3.own.length K3.c1)).setCell (p := ⟨w.heap.size + 1, 1, none⟩) (.inl rfl) (.slice K3.A2 K3.rts.length K3.c2)).setCell (p := ⟨w.heap.size + 1, 2, none⟩) (.inl rfl) (.slice K3.A3 K3.pts.length K3.c3)).setCell (p := ⟨w.heap.size + 1, 3, none⟩) (.inl rfl) (.slice K3.A4 K3.crs.length K3.c4)).setCell (p := ⟨w.heap.size + 1, 4, none⟩) (.inl rfl) (.slice K3.A5 K3.lns.length K3.c5)).setCell (p := ⟨w.heap.size + 1, 5, none⟩) (.inl rfl) (.slice K3.A6 K3.rss.length K3.c6)).setCell (p := ⟨w.heap.size + 1, 6, none⟩) (.inl rfl) (.bool K3.dirty))
      simp only [List.setIfInBounds_toArray, List.set_cons_zero, List.set_cons_succ] at isR
      go_wp2_with fail
      generalize hW : World.setCell _ _ _ = W at *
      have d0 := isR.cell 0
      have d1 := isR.cell 1
      have d2 := isR.cell 2
      have d3 := isR.cell 3
      have d4 := isR.cell 4
      have d5 := isR.cell 5
      have d6 := isR.cell 6
      have hn1 : w.heap.size + 2 ≤ w1.heap.size := HN1.out
      have HOW : K3.Own w.heap.size W := (HV.out.own.fr fR fun k hk e => by have a := (HV.out.own.lt k hk).1; omega).base (by omega)
      have FW : Fr (fun _ => False) w W := (fr_nil HF0.out HV.out.f).trans fR fun k hk e => by omega
      refine bodyPost_ret (v := K3.val) ?_ rfl ⟨K3, rfl, HQ.out, HOW, FW⟩
      unfold Km.val Km.arr
      simp [results, Try.results21, go_sem, d0, d1, d2, d3, d4, d5, d6]
end Go.Proofs.Ytnnacdkijeoeoaa.Lk

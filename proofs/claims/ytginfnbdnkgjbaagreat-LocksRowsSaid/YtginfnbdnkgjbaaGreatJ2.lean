import Derived.Test.YtginfnbdnkgjbaaGreatLp
import Derived.Test.YtginfnbdnkgjbaaGreatKv
import Derived.Test.YtginfnbdnkgjbaaGreatLblank
import Derived.Test.YtginfnbdnkgjbaaGreatJ1
import Derived.Deep.RegionHeld3
namespace Go.Proofs.YtginfnbdnkgjbaaGreat.Lk
open Go.RowKit
def smS : List Sec := [⟨0, 0, 0⟩, ⟨1, 0, 0⟩, ⟨0, 0, 0⟩, ⟨0, 0, 0⟩, ⟨0, 0, 1⟩]
def smJ : List Jo := [⟨0, 1, 1, 0⟩, ⟨1, 1, 2, 0⟩, ⟨1, 2, 3, 0⟩, ⟨2, 1, 4, 0⟩]
def smG : List Sg := [⟨0, 1⟩, ⟨2, 1⟩]
def smF : Cf := ⟨smS, smJ, smG, [], [⟨0, 1, [⟨1, 0, 1⟩, ⟨2, 0, 1⟩], [], [], false⟩, ⟨1, -1, [⟨4, 0, 1⟩], [], [], false⟩], ⟨2, 1, 4, 1000⟩⟩
theorem sm_check : checkE smF = 0 := by kernel_rfl
def smC (b : Nat) : Cm := ⟨some ⟨b, 0, none⟩, 5, smS, some ⟨b + 1, 0, none⟩, 4, smJ, some ⟨b + 2, 0, none⟩, 2, smG, none, 0, [], some ⟨b + 5, 0, none⟩, 2,
 [⟨0, 1, some ⟨b + 3, 0, none⟩, 2, [⟨1, 0, 1⟩, ⟨2, 0, 1⟩], none, 0, [], none, 0, [], false⟩, ⟨1, -1, some ⟨b + 4, 0, none⟩, 1, [⟨4, 0, 1⟩], none, 0, [], none, 0, [], false⟩], ⟨2, 1, 4, 1000⟩⟩
theorem smC_cf (b : Nat) : (smC b).cf = smF := rfl
def smW (w : World) : World := (((((((w.alloc (.cells (smC (w.heap.size + 1)).arr 30)).alloc (.cells (cellsS smS).toArray 80)).alloc (.cells (cellsJ smJ).toArray 150)).alloc (.cells (cellsG smG).toArray 152)).alloc (.cells (cellsT [⟨1, 0, 1⟩, ⟨2, 0, 1⟩]).toArray 76)).alloc (.cells (cellsT [⟨4, 0, 1⟩]).toArray 76)).alloc (.cells (cellsR (smC (w.heap.size + 1)).rs).toArray 74))
theorem smW_fr (w : World) : Fr (fun _ => False) w (smW w) := ((((((((Fr.refl (fun _ => False) _).alloc _).alloc _).alloc _).alloc _).alloc _).alloc _).alloc _)
theorem smW_cf (w : World) : Is (smW w) w.heap.size 30 (smC (w.heap.size + 1)).arr := (Is.new w _ _).fr (((((((Fr.refl (fun _ => False) _).alloc _).alloc _).alloc _).alloc _).alloc _).alloc _) id
theorem smW_ok (w : World) : (smC (w.heap.size + 1)).Ok (smW w) := by
 have r1 : Rd (smW w) (some ⟨w.heap.size + 1, 0, none⟩) (cellsS smS) := (lit_rd_at (by simp) (cellsS smS) _).fr ((((((Fr.refl (fun _ => False) _).alloc _).alloc _).alloc _).alloc _).alloc _) fun _ _ => id
 have r2 : Rd (smW w) (some ⟨w.heap.size + 2, 0, none⟩) (cellsJ smJ) := (lit_rd_at (by simp) (cellsJ smJ) _).fr (((((Fr.refl (fun _ => False) _).alloc _).alloc _).alloc _).alloc _) fun _ _ => id
 have r3 : Rd (smW w) (some ⟨w.heap.size + 3, 0, none⟩) (cellsG smG) := (lit_rd_at (by simp) (cellsG smG) _).fr ((((Fr.refl (fun _ => False) _).alloc _).alloc _).alloc _) fun _ _ => id
 have r4 : Rd (smW w) (some ⟨w.heap.size + 4, 0, none⟩) (cellsT [⟨1, 0, 1⟩, ⟨2, 0, 1⟩]) := (lit_rd_at (by simp) (cellsT [⟨1, 0, 1⟩, ⟨2, 0, 1⟩]) _).fr (((Fr.refl (fun _ => False) _).alloc _).alloc _) fun _ _ => id
 have r5 : Rd (smW w) (some ⟨w.heap.size + 5, 0, none⟩) (cellsT [⟨4, 0, 1⟩]) := (lit_rd_at (by simp) (cellsT [⟨4, 0, 1⟩]) _).fr ((Fr.refl (fun _ => False) _).alloc _) fun _ _ => id
 have r6 : Rd (smW w) (some ⟨w.heap.size + 6, 0, none⟩) (cellsR (smC (w.heap.size + 1)).rs) := lit_rd_at (by simp) (cellsR (smC (w.heap.size + 1)).rs) _
 have nr : ∀ {xs : List Value}, xs = [] → Rd (smW w) none xs := fun e h => by rw [e] at h; simp at h
 refine ⟨r1, r2, r3, nr rfl, r6, ?_, by simp [smC, smS, smJ, smG], by simp [smC, smS, smJ, smG], by simp [smC, smS, smJ, smG], by simp [smC, smS, smJ, smG], by simp [smC, smS, smJ, smG], by simp [smC, smS, smJ, smG], by simp [smC, smS, smJ, smG], by simp [smC, smS, smJ, smG], by simp [smC, smS, smJ, smG], by simp [smC, smS, smJ, smG], by simp [smC, smS, smJ, smG], by simp [smC, smS, smJ, smG], by simp [smC, smS, smJ, smG], by simp [smC, smS, smJ, smG], by simp [smC, smS, smJ, smG]⟩
 intro r hr
 simp only [smC, List.mem_cons, List.not_mem_nil, or_false] at hr
 rcases hr with rfl | rfl
 ·exact ⟨r4, nr rfl, nr rfl, by simp, by simp, by simp, by simp, by simp, by simp, by simp, by simp, by simp⟩
 ·exact ⟨r5, nr rfl, nr rfl, by simp, by simp, by simp, by simp, by simp, by simp, by simp, by simp, by simp⟩
set_option maxRecDepth 100000 in
set_option maxHeartbeats 4000000 in
theorem station13_any (w : World) : Calls Tryz.prog 46 #[] w fun e w' => e = .returned (smC (w.heap.size + 1)).val ∧ w' = smW w := by
 go_enter Tryz.func46, Tryz.ntmps46
 go_wp2_with fail
 have hi := smW_cf w
 have m0 := hi.cell 0
 have m1 := hi.cell 1
 have m2 := hi.cell 2
 have m3 := hi.cell 3
 have m4 := hi.cell 4
 have m5 := hi.cell 5
 have m6 := hi.cell 6
 have m7 := hi.cell 7
 have m8 := hi.cell 8
 simp [smC, Cm.arr] at m0 m1 m2 m3 m4 m5 m6 m7 m8
 refine bodyPost_ret (v := (smC (w.heap.size + 1)).val) ?_ rfl ⟨rfl, ?_⟩
 rotate_left
 ·rfl
 ·show (results Tryz.f46 _).run Tryz.prog (smW w) = .ok _ (smW w)
  generalize smW w = Wf at m0 m1 m2 m3 m4 m5 m6 m7 m8 ⊢
  simp [results, Tryz.results46, go_sem, m0, m1, m2, m3, m4, m5, m6, m7, m8, Cm.val, Cm.arr, smC]
set_option maxRecDepth 100000 in
set_option maxHeartbeats 4000000 in
theorem station14_any (w : World) : Calls Tryz.prog 93 #[] w fun e w' => e = .returned (smC (w.heap.size + 1)).val ∧ w' = smW w := by
 go_enter Tryz.func93, Tryz.ntmps93
 go_wp2_with fail
 have hi := smW_cf w
 have m0 := hi.cell 0
 have m1 := hi.cell 1
 have m2 := hi.cell 2
 have m3 := hi.cell 3
 have m4 := hi.cell 4
 have m5 := hi.cell 5
 have m6 := hi.cell 6
 have m7 := hi.cell 7
 have m8 := hi.cell 8
 simp [smC, Cm.arr] at m0 m1 m2 m3 m4 m5 m6 m7 m8
 refine bodyPost_ret (v := (smC (w.heap.size + 1)).val) ?_ rfl ⟨rfl, ?_⟩
 rotate_left
 ·rfl
 ·show (results Tryz.f93 _).run Tryz.prog (smW w) = .ok _ (smW w)
  generalize smW w = Wf at m0 m1 m2 m3 m4 m5 m6 m7 m8 ⊢
  simp [results, Tryz.results93, go_sem, m0, m1, m2, m3, m4, m5, m6, m7, m8, Cm.val, Cm.arr, smC]
end Go.Proofs.YtginfnbdnkgjbaaGreat.Lk
namespace Go.Proofs.YtginfnbdnkgjbaaGreat.Lk
open Go.RowKit
theorem bx_made {w0 w : World} {K : Km} (h : K.Own w0.heap.size w) (f : Fr (fun _ => False) w0 w) : Bx w0 (w.alloc (.cells #[.slice K.A1 K.own.length K.c1, .slice K.A2 K.rts.length K.c2, .slice K.A3 K.pts.length K.c3, .slice K.A4 K.crs.length K.c4, .slice K.A5 K.lns.length K.c5, .slice K.A6 K.rss.length K.c6, .bool K.dirty] 35)) w.heap.size K :=
 ⟨Is.new w _ _, h.fr ((Fr.refl _ w).alloc _) fun _ _ => id, f.alloc _, f.size⟩
def coldM (_ : Int) : Int := -1
theorem bx_own0 {w0 v : World} {kb g j : Nat} {K : Km} {l : List Int} (h : Bx w0 v kb { K with own := fillP coldM 0 l j }) (hB : K.A1 = some ⟨g, 0, none⟩) (hj : j < l.length) :
  Hid (Bx w0 (v.setCell ⟨g, j, none⟩ (.int .i64 (-1))) kb { K with own := fillP coldM 0 l (j + 1) }) ∧ v.cell? ⟨kb, 0, none⟩ = some (.slice (some ⟨g, 0, none⟩) l.length K.c1) ∧ (∃ u, v.cell? ⟨g, j, none⟩ = some u) ∧ v.frozen? ⟨g, j, none⟩ = false := by
 have hlen := fillP_len coldM 0 l j (by omega)
 have b := h.owner (K := { K with own := fillP coldM 0 l j }) (j := j) (by show j < (fillP _ _ _ _).length; omega) hB (-1)
 refine ⟨Lib.hid ?_, ?_, ?_⟩
 ·rw [← fillP_set coldM 0 l j hj]
  exact b
 ·have c := h.is.cell 0
  simpa [Km.arr, hB, hlen] using c
 ·have o' : v.ownsRow w0.heap.size 3 1 (.slice (some ⟨g, 0, none⟩) (fillP coldM 0 l j).length K.c1) (fillP coldM 0 l j).length ((fillP coldM 0 l j).map (Value.int .i64)) := by
   have o2 : v.ownsRow w0.heap.size 3 1 (.slice K.A1 (fillP coldM 0 l j).length K.c1) (fillP coldM 0 l j).length ((fillP coldM 0 l j).map (Value.int .i64)) := h.own.own
   rw [hB] at o2; exact o2
  obtain ⟨g', o9, e9, c0⟩ := rd_int (wide_rd o') (j := j) (by omega)
  injection e9 with e9
  injection e9 with e1 e2
  subst e1 e2
  simp only [Nat.zero_add] at c0
  exact ⟨⟨_, c0⟩, o'.frozenAt _⟩
set_option maxHeartbeats 4000000 in
set_option maxRecDepth 100000 in
theorem new_any {C : Cm} (w : World) (hC : C.Ok w) (hcr : C.cr.length * 16 ≤ 140737488351232) (now : Int) :
  Calls Tryz.prog 23 #[C.val, .int .i64 now] w (Back w (newM C.cf now)) := by
 have KB := fun W (f : Fr (fun _ => False) w W) => blank_any W (hC.fr f) hcr now
 have HF0 := Lib.hid (((Fr.refl (fun _ => False) w).alloc (.cells C.arr 30)).alloc (.cells #[.slice none 0 0, .slice none 0 0, .slice none 0 0, .slice none 0 0, .slice none 0 0, .slice none 0 0, .bool false] 35))
 have HIC := Lib.hid ((Is.new w 30 C.arr).alloc (.cells #[.slice none 0 0, .slice none 0 0, .slice none 0 0, .slice none 0 0, .slice none 0 0, .slice none 0 0, .bool false] 35))
 have HIR := Lib.hid (Is.new (w.alloc (.cells C.arr 30)) 35 #[.slice none 0 0, .slice none 0 0, .slice none 0 0, .slice none 0 0, .slice none 0 0, .slice none 0 0, .bool false])
 rw [show (w.alloc (.cells C.arr 30)).heap.size = w.heap.size + 1 by simp] at HIR
 have hz1 : ((w.alloc (.cells C.arr 30)).alloc (.cells #[.slice none 0 0, .slice none 0 0, .slice none 0 0, .slice none 0 0, .slice none 0 0, .slice none 0 0, .bool false] 35)).heap.size = w.heap.size + 2 := by simp
 have hcb := hC.b1
 clear hC hcr
 unfold Cm.val Cm.arr at *
 go_enter Tryz.func23, Tryz.ntmps23
 go_upto_region 1 with (fail)
 generalize ((w.alloc _).alloc _) = w1 at *
 have HN1 : Hid (w.heap.size + 2 ≤ w1.heap.size) := Lib.hid (Nat.le_of_eq hz1.symm)
 clear hz1
 obtain ⟨p0, p1, p2, p3, p4, p5, p6, p7, p8⟩ := conf_cells0 HIC.out
 go_wp2_with fail
 refine (KB _ HF0.out).mono ?_
 rintro _ w2 ⟨K, rfl, hk, ho, f2⟩
 have HKP := Lib.hid hk
 have HBX := Lib.hid (bx_made ho f2)
 clear hk ho f2 KB p0 p1 p2 p3 p4 p5 p6 p7 p8
 unfold Km.val Km.arr
 go_upto_region 2 with fail
 generalize hw3 : World.alloc _ _ = w3 at *
 generalize w2.heap.size = kb at *
 clear hw3
 have c0 : w3.cell? ⟨kb, 0, none⟩ = some (.slice K.A1 K.own.length K.c1) := HBX.out.is.cell 0
 have HE0 : Hid (K.own = fillP coldM 0 K.own 0) := Lib.hid (by
  have h : K.own = C.l.map fun _ => 0 := congrArg Kp.own HKP.out
  rw [fillP_zero]
  have e2 : K.own.length = C.l.length := by rw [h, List.length_map]
  rw [e2, h, List.map_const'])
 have HLB : Hid (K.own.length * 24 ≤ 140737488351232) := Lib.hid (by
  have h : K.own = C.l.map fun _ => 0 := congrArg Kp.own HKP.out
  rw [h, List.length_map]
  exact hcb)
 go_wp2_with fail
 clear c0
 go_loopw [13] (fun i wr => ∃ k, k ≤ K.own.length ∧ i = .int .i64 (k : Nat) ∧ Bx w1 wr kb { K with own := fillP coldM 0 K.own k }) (fun i _ => K.own.length - (intOf i).toNat)
 case atStart => exact ⟨0, Nat.zero_le _, rfl, by rw [← HE0.out]; exact HBX.out⟩
 case round =>
  clear HBX
  obtain ⟨k, hk, rfl, hbx⟩ := hrel
  have HZ := Lib.hid hbx
  clear hbx
  by_cases hlt : k < K.own.length
  ·obtain ⟨g, hA, -, -⟩ := own_some HZ.out.own.own (by show 0 < (fillP _ _ _ _).length; rw [fillP_len _ _ _ _ (by omega)]; omega)
   have hA : K.A1 = some ⟨g, 0, none⟩ := hA
   obtain ⟨HVN, c0, ⟨u, cu⟩, zu⟩ := bx_own0 HZ.out hA hlt
   have i1 : (0 : Int) ≤ (k : Int) := by omega
   have i2 : (k : Int) < (K.own.length : Int) := by omega
   have i5 : (k : Int) < 140737488351232 := by have := HLB.out; omega
   clear hA HE0
   go_wp2_with fail
   go_roundw
   case rel => exact ⟨k + 1, by omega, by go_num, HVN.out⟩
   case measure => simp [intOf]; omega
  ·have hkn : k = K.own.length := by omega
   subst hkn
   have HV0 : Hid (Bx w1 wr kb { K with own := K.own.map coldM }) := Lib.hid (by
    have := HZ.out
    rw [fillP_all _ _ _ _ (Nat.le_refl _)] at this
    exact this)
   have HV1 := Lib.hid (HV0.out.dirt true)
   have cd : wr.cell? ⟨kb, 6, none⟩ = some (.bool K.dirty) := HV0.out.is.cell 6
   have zd := HV0.out.is.frozen 6
   have HQ : Hid (({ K with own := K.own.map coldM, dirty := true } : Km).kp = newM C.cf now) := Lib.hid (by
    have h := HKP.out
    unfold Km.kp blankM at h
    simp only [Kp.mk.injEq] at h
    obtain ⟨h1, h2, h3, h4, h5, h6, h7⟩ := h
    unfold Km.kp newM
    simp only [Kp.mk.injEq]
    refine ⟨?_, h2, h3, h4, h5, h6, trivial⟩
    rw [h1, List.map_map]
    rfl)
   clear hlt hk HZ HKP HE0
   go_upto_region 8 with fail
   clear cd zd
   generalize ({ K with own := K.own.map coldM, dirty := true } : Km) = K3 at HQ HV1
   have HV := HV1
   clear HV1 HV0
   generalize wr.setCell ⟨kb, 6, none⟩ (.bool true) = wq at *
   obtain ⟨k0, k1, k2, k3, k4, k5, k6⟩ := core_cells (K := K3) HV.out.is
   have isr := HIR.out.fr HV.out.f id
   obtain ⟨m0, m1, m2, m3, m4, m5, m6⟩ := seven isr
   have z0x := isr.frozen 0
   have z1x := isr.frozen 1
   have z2x := isr.frozen 2
   have z3x := isr.frozen 3
   have z4x := isr.frozen 4
   have z5x := isr.frozen 5
   have z6x := isr.frozen 6
   have isR := (((((((isr.set 0 (.slice K3.A1 K3.own.length K3.c1)).set 1 (.slice K3.A2 K3.rts.length K3.c2)).set 2 (.slice K3.A3 K3.pts.length K3.c3)).set 3 (.slice K3.A4 K3.crs.length K3.c4)).set 4 (.slice K3.A5 K3.lns.length K3.c5)).set 5 (.slice K3.A6 K3.rss.length K3.c6)).set 6 (.bool K3.dirty))
   have fR := ((((((((Fr.refl (fun q => q = w.heap.size + 1) wq).setCell (p := ⟨w.heap.size + 1, 0, none⟩) (.inl rfl) (.slice K3.A1 K3.own.length K3.c1)).setCell (p := ⟨w.heap.size + 1, 1, none⟩) (.inl rfl) (.slice K3.A2 K3.rts.length K3.c2)).setCell (p := ⟨w.heap.size + 1, 2, none⟩) (.inl rfl) (.slice K3.A3 K3.pts.length K3.c3)).setCell (p := ⟨w.heap.size + 1, 3, none⟩) (.inl rfl) (.slice K3.A4 K3.crs.length K3.c4)).setCell (p := ⟨w.heap.size + 1, 4, none⟩) (.inl rfl) (.slice K3.A5 K3.lns.length K3.c5)).setCell (p := ⟨w.heap.size + 1, 5, none⟩) (.inl rfl) (.slice K3.A6 K3.rss.length K3.c6)).setCell (p := ⟨w.heap.size + 1, 6, none⟩) (.inl rfl) (.bool K3.dirty))
   simp only [List.setIfInBounds_toArray, List.set_cons_zero, List.set_cons_succ] at isR
   go_wp2_with fail
   generalize hW : World.setCell _ _ _ = W at *
   have d0 := isR.cell 0
   have d1 := isR.cell 1
   have d2 := isR.cell 2
   have d3 := isR.cell 3
   have d4 := isR.cell 4
   have d5 := isR.cell 5
   have d6 := isR.cell 6
   have hn1 : w.heap.size + 2 ≤ w1.heap.size := HN1.out
   have HOW : K3.Own w.heap.size W := (HV.out.own.fr fR fun k hk e => by have a := (HV.out.own.lt k hk).1; omega).base (by omega)
   have FW : Fr (fun _ => False) w W := (fr_nil HF0.out HV.out.f).trans fR fun k hk e => by omega
   refine bodyPost_ret (v := K3.val) ?_ rfl ⟨K3, rfl, HQ.out, HOW, FW⟩
   unfold Km.val Km.arr
   simp [results, Tryz.results23, go_sem, d0, d1, d2, d3, d4, d5, d6]
end Go.Proofs.YtginfnbdnkgjbaaGreat.Lk
namespace Go.Proofs.YtginfnbdnkgjbaaGreat.Lk
open Go.RowKit
theorem sm_cr {C : Cm} (h : C.cf = smF) : C.cr.length * 16 ≤ 140737488351232 := by
 have e : C.cr = smF.crs := congrArg Cf.crs h
 rw [e]; decide
theorem station13_ex (w : World) : Calls Tryz.prog 46 #[] w fun e w' => ∃ C : Cm, e = .returned C.val ∧ C.cf = smF ∧ C.Ok w' ∧ Fr (fun _ => False) w w' :=
 (station13_any w).mono fun _ _ ⟨he, hw⟩ => ⟨_, he, smC_cf _, hw ▸ smW_ok w, hw ▸ smW_fr w⟩
theorem sm_fits : fitsB smF (newM smF 5) = true := by kernel_rfl
theorem sm_locks : locksM (rtAt smF 0) = [1, 2] := by
 have e : rawLocks (rtAt smF 0) = [1, 2] := rfl
 unfold locksM sortM
 rw [e, List.mergeSort_of_pairwise (by simp)]
 decide
def smK1 : Kp := ⟨[-1, 0, 0, -1, -1], (newM smF 5).rts, (newM smF 5).pts, (newM smF 5).crs, (newM smF 5).lns, (newM smF 5).rss, true⟩
def smK3 : Kp := ⟨[-1, 1, 1, -1, -1], [⟨1, 0, 0, 0⟩, ⟨0, 0, 0, 0⟩], [⟨0, 0⟩, ⟨1, 5⟩, ⟨0, 0⟩, ⟨0, 0⟩, ⟨0, 0⟩], [], List.replicate 4 default, [0, 0, 0, 0, 0], true⟩
theorem sm_req1 : gateM smF (newM smF 5) (tmB 5) (reqM smF (newM smF 5) 5 0) = (newM smF 5, 22) := by
 unfold reqM reqE reqK
 rw [sm_locks]
 kernel_rfl
theorem sm_req2 : gateM smF smK1 (tmB 5) (reqM smF smK1 5 0) = (smK3, 0) := by
 unfold reqM reqE reqK
 rw [sm_locks]
 kernel_rfl
theorem sm_own1 : smK1.own = [-1, 0, 0, -1, -1] := rfl
theorem sm_own3 : smK3.own = [-1, 1, 1, -1, -1] := rfl
theorem sm_rts3 : smK3.rts = [⟨1, 0, 0, 0⟩, ⟨0, 0, 0, 0⟩] := rfl
theorem sm_pts3 : smK3.pts = [⟨0, 0⟩, ⟨1, 5⟩, ⟨0, 0⟩, ⟨0, 0⟩, ⟨0, 0⟩] := rfl
theorem two_own {w0 v : World} {kb g : Nat} {K : Km} (h : Bx w0 v kb K) (hl : K.own.length = 5) (hA : K.A1 = some ⟨g, 0, none⟩) :
  Hid (Bx w0 (v.setCell ⟨g, 1, none⟩ (.int .i64 0)) kb { K with own := K.own.set 1 0 }) ∧ Hid (Bx w0 ((v.setCell ⟨g, 1, none⟩ (.int .i64 0)).setCell ⟨g, 2, none⟩ (.int .i64 0)) kb { K with own := (K.own.set 1 0).set 2 0 }) ∧
   (∃ u, v.cell? ⟨g, 1, none⟩ = some u) ∧ v.frozen? ⟨g, 1, none⟩ = false ∧ (∃ u, v.cell? ⟨g, 2, none⟩ = some u) ∧ v.frozen? ⟨g, 2, none⟩ = false ∧ kb ≠ g := by
 have b1 := h.owner (j := 1) (by omega) hA 0
 have b2 := b1.owner (K := { K with own := K.own.set 1 0 }) (j := 2) (by show 2 < (K.own.set 1 0).length; rw [List.length_set]; omega) hA 0
 have o : v.ownsRow w0.heap.size 3 1 (.slice (some ⟨g, 0, none⟩) K.own.length K.c1) K.own.length (K.own.map (Value.int .i64)) := by rw [← hA]; exact h.own.own
 obtain ⟨g1, o1, e1, c1⟩ := rd_int (wide_rd o) (j := 1) (by omega)
 obtain ⟨g2, o2, e2, c2⟩ := rd_int (wide_rd o) (j := 2) (by omega)
 injection e1 with e1
 injection e1 with a1 a2
 injection e2 with e2
 injection e2 with a3 a4
 subst a1 a2 a3 a4
 refine ⟨Lib.hid b1, Lib.hid b2, ⟨_, by simpa using c1⟩, o.frozenAt _, ⟨_, by simpa using c2⟩, o.frozenAt _, fun e => h.no (by rw [e]; exact .inl (by rw [hA]; rfl))⟩
set_option maxHeartbeats 8000000 in
set_option maxRecDepth 100000 in
theorem lives13_any (w : World) : Calls Tryz.prog 16 #[] w fun e w' => e = .returned (.bool true) ∧ Fr (fun _ => False) w w' := by
 go_enter Tryz.func16, Tryz.ntmps16
 go_wp2_with fail
 refine (station13_ex _).mono ?_
 rintro _ w1 ⟨C, rfl, hcf, hC, f1⟩
 have HF := Lib.hid f1
 have HCF := Lib.hid hcf
 have KN := new_any w1 hC (sm_cr hcf) 5
 clear f1 hcf hC
 go_wp2_with fail
 refine KN.mono ?_
 rintro _ w2 ⟨K, rfl, hk, ho, f2⟩
 have HKP : Hid (K.kp = newM smF 5) := Lib.hid (hk.trans (by rw [HCF.out]))
 have HBX := Lib.hid (bx_made ho f2)
 clear hk ho f2 KN HCF
 unfold Km.val Km.arr
 go_upto_region 2 with fail
 generalize hw3 : World.alloc _ _ = w3 at *
 generalize w2.heap.size = kb at *
 clear hw3
 have hlen : K.own.length = 5 := by rw [show K.own = (newM smF 5).own from congrArg Kp.own HKP.out]; rfl
 have HLEN := Lib.hid hlen
 have HS : Hid (∀ W, Fr (fun _ => False) w3 W → (fun Wx => Wx.cell? ⟨kb, 0, none⟩ = some (.slice K.A1 K.own.length K.c1) ∧ Wx.cell? ⟨kb, 1, none⟩ = some (.slice K.A2 K.rts.length K.c2) ∧ Wx.cell? ⟨kb, 2, none⟩ = some (.slice K.A3 K.pts.length K.c3) ∧ Wx.cell? ⟨kb, 3, none⟩ = some (.slice K.A4 K.crs.length K.c4) ∧ Wx.cell? ⟨kb, 4, none⟩ = some (.slice K.A5 K.lns.length K.c5) ∧ Wx.cell? ⟨kb, 5, none⟩ = some (.slice K.A6 K.rss.length K.c6) ∧ Wx.cell? ⟨kb, 6, none⟩ = some (.bool K.dirty)) W) := Lib.hid fun W fW => core_cells (K := K) (HBX.out.is.fr fW id)
 have HG := Lib.hid (Fr.refl (fun _ => False) w3).drew
 have hd5 : (K.own.length : Int) = 5 := by omega
 clear hlen
 refine wp_region_held_drew (S := (fun Wx => Wx.cell? ⟨kb, 0, none⟩ = some (.slice K.A1 K.own.length K.c1) ∧ Wx.cell? ⟨kb, 1, none⟩ = some (.slice K.A2 K.rts.length K.c2) ∧ Wx.cell? ⟨kb, 2, none⟩ = some (.slice K.A3 K.pts.length K.c3) ∧ Wx.cell? ⟨kb, 3, none⟩ = some (.slice K.A4 K.crs.length K.c4) ∧ Wx.cell? ⟨kb, 4, none⟩ = some (.slice K.A5 K.lns.length K.c5) ∧ Wx.cell? ⟨kb, 5, none⟩ = some (.slice K.A6 K.rss.length K.c6) ∧ Wx.cell? ⟨kb, 6, none⟩ = some (.bool K.dirty))) (by kernel_rfl) (HS.out _ (Fr.refl _ w3).drew) (fun hHeld => ?_)
 refine wpAnyH_take (i := 0) (oi := { dst := some 8, op := _, type := _, pos := _, after := _, guard := _ }) (v := ?_) rfl (by kernel_rfl) (by kernel_rfl) (by kernel_rfl) (fun _ _ _ h => h) (Or.inl ⟨by rfl, ?_⟩) (by assumption) ?_
 rotate_left
 ·intro Wx hSw
  try dsimp only at hSw
  go_simp
  try with_reducible rfl
 try simp only [Act.put, List.setIfInBounds_toArray, List.set_cons_zero, List.set_cons_succ]
 refine wpAnyH_take (i := 1) (oi := { dst := some 9, op := _, type := _, pos := _, after := _, guard := _ }) (v := ?_) rfl (by kernel_rfl) (by kernel_rfl) (by kernel_rfl) (fun _ _ _ h => h) (Or.inl ⟨by rfl, ?_⟩) (by assumption) ?_
 rotate_left
 ·intro Wx hSw
  try dsimp only at hSw
  go_simp
  try with_reducible rfl
 try simp only [Act.put, List.setIfInBounds_toArray, List.set_cons_zero, List.set_cons_succ]
 refine wpAnyH_take (i := 2) (oi := { dst := some 10, op := _, type := _, pos := _, after := _, guard := _ }) (v := ?_) rfl (by kernel_rfl) (by kernel_rfl) (by kernel_rfl) (fun _ _ _ h => h) (Or.inl ⟨by rfl, ?_⟩) (by assumption) ?_
 rotate_left
 ·intro Wx hSw
  try dsimp only at hSw
  go_simp
  try with_reducible rfl
 try simp only [Act.put, List.setIfInBounds_toArray, List.set_cons_zero, List.set_cons_succ]
 refine wpAnyH_take (i := 3) (oi := { dst := some 11, op := _, type := _, pos := _, after := _, guard := _ }) (v := ?_) rfl (by kernel_rfl) (by kernel_rfl) (by kernel_rfl) (fun _ _ _ h => h) (Or.inl ⟨by rfl, ?_⟩) (by assumption) ?_
 rotate_left
 ·intro Wx hSw
  try dsimp only at hSw
  go_simp
  try with_reducible rfl
 try simp only [Act.put, List.setIfInBounds_toArray, List.set_cons_zero, List.set_cons_succ]
 refine wpAnyH_take (i := 4) (oi := { dst := some 12, op := _, type := _, pos := _, after := _, guard := _ }) (v := ?_) rfl (by kernel_rfl) (by kernel_rfl) (by kernel_rfl) (fun _ _ _ h => h) (Or.inl ⟨by rfl, ?_⟩) (by assumption) ?_
 rotate_left
 ·intro Wx hSw
  try dsimp only at hSw
  go_simp
  try with_reducible rfl
 try simp only [Act.put, List.setIfInBounds_toArray, List.set_cons_zero, List.set_cons_succ]
 refine wpAnyH_take (i := 6) (oi := { dst := some 14, op := _, type := _, pos := _, after := _, guard := _ }) (v := ?_) rfl (by kernel_rfl) (by kernel_rfl) (by kernel_rfl) (fun _ _ _ h => h) (Or.inl ⟨by rfl, ?_⟩) (by assumption) ?_
 rotate_left
 ·intro Wx hSw
  try dsimp only at hSw
  go_simp
  try with_reducible rfl
 try simp only [Act.put, List.setIfInBounds_toArray, List.set_cons_zero, List.set_cons_succ]
 refine wpAnyH_ready (rs := [5]) (by kernel_rfl) (by simp) (AllReadyH.cons rfl (fun KK hKK => ?_) AllReadyH.nil)
 go_simp
 refine (station13_ex _).mono ?_
 rintro _ va ⟨C2, rfl, hcf2, hC2, fa⟩
 have HG := Lib.hid (fr_nil HG.out fa)
 have KF := fun W (f : Fr (fun _ => False) va W) => fits_any C2 K W (hC2.fr f) ((HBX.out.own.ok (by rw [HLEN.out]; decide) (by rw [show K.rts = (newM smF 5).rts from congrArg Kp.rts HKP.out]; decide) (by rw [show K.pts = (newM smF 5).pts from congrArg Kp.pts HKP.out]; decide) (by rw [show K.crs = (newM smF 5).crs from congrArg Kp.crs HKP.out]; decide) (by rw [show K.lns = (newM smF 5).lns from congrArg Kp.lns HKP.out]; decide) (by rw [show K.rss = (newM smF 5).rss from congrArg Kp.rss HKP.out]; decide)).fr (fr_nil HG.out f))
 rw [hcf2, HKP.out, sm_fits] at KF
 clear fa hcf2 hC2
 unfold Km.val Km.arr at KF
 refine hKK.out _ _ (HS.out _ HG.out) (fun hHeld => ?_)
 clear hKK KK
 refine wpAnyH_ready (rs := [7]) (by kernel_rfl) (by simp) (AllReadyH.cons rfl (fun KK hKK => ?_) AllReadyH.nil)
 go_simp
 refine (KF _ (Fr.refl _ _)).mono ?_
 rintro _ vb ⟨rfl, fb⟩
 have HG := Lib.hid (fr_nil HG.out fb)
 clear fb KF
 go_simp
 refine hKK.out _ _ (HS.out _ HG.out) (fun hHeld => ?_)
 clear hKK KK
 refine wpAnyH_take (i := 8) (oi := { dst := some 16, op := _, type := _, pos := _, after := _, guard := _ }) (v := ?_) rfl (by kernel_rfl) (by kernel_rfl) (by kernel_rfl) (fun _ _ _ h => h) (Or.inl ⟨by rfl, ?_⟩) (by assumption) ?_
 rotate_left
 ·intro Wx hSw
  try dsimp only at hSw
  go_simp
  try with_reducible rfl
 try simp only [Act.put, List.setIfInBounds_toArray, List.set_cons_zero, List.set_cons_succ]
 refine wpAnyH_take (i := 9) (oi := { dst := some 17, op := _, type := _, pos := _, after := _, guard := _ }) (v := ?_) rfl (by kernel_rfl) (by kernel_rfl) (by kernel_rfl) (fun _ _ _ h => h) (Or.inl ⟨by rfl, ?_⟩) (by assumption) ?_
 rotate_left
 ·intro Wx hSw
  try dsimp only at hSw
  go_simp
  try with_reducible rfl
 try simp only [Act.put, List.setIfInBounds_toArray, List.set_cons_zero, List.set_cons_succ]
 refine wpAnyH_done (by kernel_rfl) ?_ _
 have HBX := Lib.hid (HBX.out.fr HG.out)
 clear HS HG
 go_upto_region 4 with fail
 generalize hvb : vb = w4 at *
 clear hvb
 have HOK : Hid (∀ W, Fr (fun _ => False) w4 W → K.Ok W) := Lib.hid fun W f => ((HBX.out.own.ok (by rw [HLEN.out]; decide) (by rw [show K.rts = (newM smF 5).rts from congrArg Kp.rts HKP.out]; decide) (by rw [show K.pts = (newM smF 5).pts from congrArg Kp.pts HKP.out]; decide) (by rw [show K.crs = (newM smF 5).crs from congrArg Kp.crs HKP.out]; decide) (by rw [show K.lns = (newM smF 5).lns from congrArg Kp.lns HKP.out]; decide) (by rw [show K.rss = (newM smF 5).rss from congrArg Kp.rss HKP.out]; decide)).fr f)
 go_cut [2, 3] from 18 (fun v2 v3 wx => ∃ (nb : Nat) (K2 : Km), v2 = .pointer (some ⟨nb, 0, none⟩) ∧ v3 = .int .i64 22 ∧ K2.kp = (newM smF 5) ∧ Bx w4 wx nb K2)
 case first =>
  have KR : ∀ (C : Cm) W, C.Ok W → Fr (fun _ => False) w4 W → Calls Tryz.prog 33 #[C.val, .agg #[.slice K.A1 K.own.length K.c1, .slice K.A2 K.rts.length K.c2, .slice K.A3 K.pts.length K.c3, .slice K.A4 K.crs.length K.c4, .slice K.A5 K.lns.length K.c5, .slice K.A6 K.rss.length K.c6, .bool K.dirty], .int .i64 5, .int .i64 0] W (AnsE W (gateM C.cf K.kp (tmB 5) (reqM C.cf K.kp 5 0))) := fun C W hC f => call_Request_fit C K W hC (HOK.out W f) 5 0
  have HS : Hid (∀ W, Fr (fun _ => False) w4 W → (fun Wx => Wx.cell? ⟨kb, 0, none⟩ = some (.slice K.A1 K.own.length K.c1) ∧ Wx.cell? ⟨kb, 1, none⟩ = some (.slice K.A2 K.rts.length K.c2) ∧ Wx.cell? ⟨kb, 2, none⟩ = some (.slice K.A3 K.pts.length K.c3) ∧ Wx.cell? ⟨kb, 3, none⟩ = some (.slice K.A4 K.crs.length K.c4) ∧ Wx.cell? ⟨kb, 4, none⟩ = some (.slice K.A5 K.lns.length K.c5) ∧ Wx.cell? ⟨kb, 5, none⟩ = some (.slice K.A6 K.rss.length K.c6) ∧ Wx.cell? ⟨kb, 6, none⟩ = some (.bool K.dirty)) W) := Lib.hid fun W fW => core_cells (K := K) (HBX.out.is.fr fW id)
  have HG := Lib.hid (Fr.refl (fun _ => False) w4).drew
  refine wp_region_held_drew (S := (fun Wx => Wx.cell? ⟨kb, 0, none⟩ = some (.slice K.A1 K.own.length K.c1) ∧ Wx.cell? ⟨kb, 1, none⟩ = some (.slice K.A2 K.rts.length K.c2) ∧ Wx.cell? ⟨kb, 2, none⟩ = some (.slice K.A3 K.pts.length K.c3) ∧ Wx.cell? ⟨kb, 3, none⟩ = some (.slice K.A4 K.crs.length K.c4) ∧ Wx.cell? ⟨kb, 4, none⟩ = some (.slice K.A5 K.lns.length K.c5) ∧ Wx.cell? ⟨kb, 5, none⟩ = some (.slice K.A6 K.rss.length K.c6) ∧ Wx.cell? ⟨kb, 6, none⟩ = some (.bool K.dirty))) (by kernel_rfl) (HS.out _ (Fr.refl _ w4).drew) (fun hHeld => ?_)
  generalize w4.drew = wdr at *
  refine wpAnyH_take (i := 1) (oi := { dst := some 20, op := _, type := _, pos := _, after := _, guard := _ }) (v := ?_) rfl (by kernel_rfl) (by kernel_rfl) (by kernel_rfl) (fun _ _ _ h => h) (Or.inl ⟨by rfl, ?_⟩) (by assumption) ?_
  rotate_left
  ·intro Wx hSw
   try dsimp only at hSw
   go_simp
   try with_reducible rfl
  try simp only [Act.put, List.setIfInBounds_toArray, List.set_cons_zero, List.set_cons_succ]
  refine wpAnyH_ready (rs := [0, 6]) (by kernel_rfl) (by simp) (AllReadyH.cons rfl (fun KK hKK => ?_) (AllReadyH.cons rfl (fun KK hKK => ?_) (AllReadyH.nil)))
  ·go_simp
   refine (station13_ex _).mono ?_
   rintro _ va ⟨C2, rfl, hcf2, hC2, fa⟩
   have HCF := Lib.hid hcf2
   have HC := Lib.hid hC2
   have HG := Lib.hid (fr_nil HG.out fa)
   clear fa hcf2 hC2
   refine hKK.out _ _ (HS.out _ HG.out) (fun hHeld => ?_)
   clear hKK KK
   refine wpAnyH_ready (rs := [2, 6]) (by kernel_rfl) (by simp) (AllReadyH.cons rfl (fun KK hKK => ?_) (AllReadyH.cons rfl (fun KK hKK => ?_) (AllReadyH.nil)))
   ·go_simp
    refine (KR C2 _ HC.out HG.out).mono ?_
    rintro _ vb ⟨K2, rfl, hk2, ho2, fb⟩
    have HK2 : Hid (K2.kp = (newM smF 5)) := Lib.hid (hk2.trans (by rw [HCF.out, HKP.out, sm_req1]))
    have HO := Lib.hid (ho2.base HG.out.size)
    have HG := Lib.hid (fr_nil HG.out fb)
    have hE : (gateM C2.cf K.kp (tmB 5) (reqM C2.cf K.kp 5 0)).2 = 22 := by rw [HCF.out, HKP.out, sm_req1]
    rw [hE]
    clear fb hk2 ho2 hE
    unfold Km.val Km.arr
    refine hKK.out _ _ (HS.out _ HG.out) (fun hHeld => ?_)
    clear hKK KK
    refine wpAnyH_take (i := 3) (oi := { dst := some 18, op := _, type := _, pos := _, after := _, guard := _ }) (v := ?_) rfl (by kernel_rfl) (by kernel_rfl) (by kernel_rfl) (fun _ _ _ h => h) (Or.inl ⟨by rfl, ?_⟩) (by assumption) ?_
    rotate_left
    ·intro Wx hSw
     try dsimp only at hSw
     go_simp
     try with_reducible rfl
    try simp only [Act.put, List.setIfInBounds_toArray, List.set_cons_zero, List.set_cons_succ]
    refine wpAnyH_take (i := 4) (oi := { dst := some 22, op := _, type := _, pos := _, after := _, guard := _ }) (v := ?_) rfl (by kernel_rfl) (by kernel_rfl) (by kernel_rfl) (fun _ _ _ h => h) (Or.inl ⟨by rfl, ?_⟩) (by assumption) ?_
    rotate_left
    ·intro Wx hSw
     try dsimp only at hSw
     go_simp
     try with_reducible rfl
    try simp only [Act.put, List.setIfInBounds_toArray, List.set_cons_zero, List.set_cons_succ]
    refine wpAnyH_take (i := 5) (oi := { dst := some 23, op := _, type := _, pos := _, after := _, guard := _ }) (v := ?_) rfl (by kernel_rfl) (by kernel_rfl) (by kernel_rfl) (fun _ _ _ h => h) (Or.inl ⟨by rfl, ?_⟩) (by assumption) ?_
    rotate_left
    ·intro Wx hSw
     try dsimp only at hSw
     go_simp
     try with_reducible rfl
    try simp only [Act.put, List.setIfInBounds_toArray, List.set_cons_zero, List.set_cons_succ]
    refine wpAnyH_ready (rs := [6]) (by kernel_rfl) (by simp) (AllReadyH.cons rfl (fun KK hKK => ?_) (AllReadyH.nil))
    go_simp
    have HI := Lib.hid (Is.new (vb) 35 #[.slice none 0 0, .slice none 0 0, .slice none 0 0, .slice none 0 0, .slice none 0 0, .slice none 0 0, .bool false])
    have HNB : Hid (w4.heap.size ≤ (vb).heap.size) := Lib.hid HG.out.size
    have HG9 := HG
    have HG := Lib.hid (HG.out.alloc (.cells #[.slice none 0 0, .slice none 0 0, .slice none 0 0, .slice none 0 0, .slice none 0 0, .slice none 0 0, .bool false] 35))
    have HO9 := HO
    have HO := Lib.hid (HO.out.fr ((Fr.refl (fun _ => False) (vb)).alloc (.cells #[.slice none 0 0, .slice none 0 0, .slice none 0 0, .slice none 0 0, .slice none 0 0, .slice none 0 0, .bool false] 35)) fun _ _ => id)
    refine hKK.out _ _ (HS.out _ HG.out) (fun hHeld => ?_)
    clear hKK KK
    refine wpAnyH_ready (rs := [7]) (by kernel_rfl) (by simp) (AllReadyH.cons rfl (fun KK hKK => ?_) (AllReadyH.nil))
    go_simp
    have isr := HI.out
    obtain ⟨m0, m1, m2, m3, m4, m5, m6⟩ := seven isr
    have HBN : Hid (Bx w4 ((vb).alloc (.cells #[.slice K2.A1 K2.own.length K2.c1, .slice K2.A2 K2.rts.length K2.c2, .slice K2.A3 K2.pts.length K2.c3, .slice K2.A4 K2.crs.length K2.c4, .slice K2.A5 K2.lns.length K2.c5, .slice K2.A6 K2.rss.length K2.c6, .bool K2.dirty] 35)) (vb).heap.size K2) := Lib.hid ⟨Is.new _ _ _, HO9.out.fr ((Fr.refl _ _).alloc _) fun _ _ => id, HG9.out.alloc _, HNB.out⟩
    clear isr
    (with_reducible refine hKK.out _ _ (HS.out _ HBN.out.f) (fun hHeld => ?_))
    clear hKK KK m0 m1 m2 m3 m4 m5 m6
    refine wpAnyH_take (i := 8) (oi := { dst := some 3, op := _, type := _, pos := _, after := _, guard := _ }) (v := ?_) rfl (by kernel_rfl) (by kernel_rfl) (by kernel_rfl) (fun _ _ _ h => h) (Or.inl ⟨by rfl, ?_⟩) (by assumption) ?_
    rotate_left
    ·intro Wx hSw
     try dsimp only at hSw
     go_simp
     try with_reducible rfl
    try simp only [Act.put, List.setIfInBounds_toArray, List.set_cons_zero, List.set_cons_succ]
    refine wpAnyH_done (by kernel_rfl) ?_ _
    go_wp2_with fail
    go_meet
    case rel => exact ⟨_, K2, rfl, rfl, HK2.out, HBN.out⟩
   ·go_simp
    have HI := Lib.hid (Is.new (va) 35 #[.slice none 0 0, .slice none 0 0, .slice none 0 0, .slice none 0 0, .slice none 0 0, .slice none 0 0, .bool false])
    have HNB : Hid (w4.heap.size ≤ (va).heap.size) := Lib.hid HG.out.size
    have HG9 := HG
    have HG := Lib.hid (HG.out.alloc (.cells #[.slice none 0 0, .slice none 0 0, .slice none 0 0, .slice none 0 0, .slice none 0 0, .slice none 0 0, .bool false] 35))
    have HC := Lib.hid (HC.out.fr ((Fr.refl (fun _ => False) (va)).alloc (.cells #[.slice none 0 0, .slice none 0 0, .slice none 0 0, .slice none 0 0, .slice none 0 0, .slice none 0 0, .bool false] 35)))
    refine hKK.out _ _ (HS.out _ HG.out) (fun hHeld => ?_)
    clear hKK KK
    refine wpAnyH_ready (rs := [2]) (by kernel_rfl) (by simp) (AllReadyH.cons rfl (fun KK hKK => ?_) (AllReadyH.nil))
    go_simp
    refine (KR C2 _ HC.out HG.out).mono ?_
    rintro _ vb ⟨K2, rfl, hk2, ho2, fb⟩
    have HK2 : Hid (K2.kp = (newM smF 5)) := Lib.hid (hk2.trans (by rw [HCF.out, HKP.out, sm_req1]))
    have HO := Lib.hid (ho2.base HG.out.size)
    have HG := Lib.hid (fr_nil HG.out fb)
    have HI := Lib.hid (HI.out.fr fb id)
    have hE : (gateM C2.cf K.kp (tmB 5) (reqM C2.cf K.kp 5 0)).2 = 22 := by rw [HCF.out, HKP.out, sm_req1]
    rw [hE]
    clear fb hk2 ho2 hE
    unfold Km.val Km.arr
    refine hKK.out _ _ (HS.out _ HG.out) (fun hHeld => ?_)
    clear hKK KK
    refine wpAnyH_take (i := 3) (oi := { dst := some 18, op := _, type := _, pos := _, after := _, guard := _ }) (v := ?_) rfl (by kernel_rfl) (by kernel_rfl) (by kernel_rfl) (fun _ _ _ h => h) (Or.inl ⟨by rfl, ?_⟩) (by assumption) ?_
    rotate_left
    ·intro Wx hSw
     try dsimp only at hSw
     go_simp
     try with_reducible rfl
    try simp only [Act.put, List.setIfInBounds_toArray, List.set_cons_zero, List.set_cons_succ]
    refine wpAnyH_take (i := 4) (oi := { dst := some 22, op := _, type := _, pos := _, after := _, guard := _ }) (v := ?_) rfl (by kernel_rfl) (by kernel_rfl) (by kernel_rfl) (fun _ _ _ h => h) (Or.inl ⟨by rfl, ?_⟩) (by assumption) ?_
    rotate_left
    ·intro Wx hSw
     try dsimp only at hSw
     go_simp
     try with_reducible rfl
    try simp only [Act.put, List.setIfInBounds_toArray, List.set_cons_zero, List.set_cons_succ]
    refine wpAnyH_take (i := 5) (oi := { dst := some 23, op := _, type := _, pos := _, after := _, guard := _ }) (v := ?_) rfl (by kernel_rfl) (by kernel_rfl) (by kernel_rfl) (fun _ _ _ h => h) (Or.inl ⟨by rfl, ?_⟩) (by assumption) ?_
    rotate_left
    ·intro Wx hSw
     try dsimp only at hSw
     go_simp
     try with_reducible rfl
    try simp only [Act.put, List.setIfInBounds_toArray, List.set_cons_zero, List.set_cons_succ]
    refine wpAnyH_ready (rs := [7]) (by kernel_rfl) (by simp) (AllReadyH.cons rfl (fun KK hKK => ?_) (AllReadyH.nil))
    have isr := HI.out
    obtain ⟨m0, m1, m2, m3, m4, m5, m6⟩ := seven isr
    have z0 := isr.frozen 0
    have z1 := isr.frozen 1
    have z2 := isr.frozen 2
    have z3 := isr.frozen 3
    have z4 := isr.frozen 4
    have z5 := isr.frozen 5
    have z6 := isr.frozen 6
    go_simp
    have isR := (((((((isr.set 0 (.slice K2.A1 K2.own.length K2.c1)).set 1 (.slice K2.A2 K2.rts.length K2.c2)).set 2 (.slice K2.A3 K2.pts.length K2.c3)).set 3 (.slice K2.A4 K2.crs.length K2.c4)).set 4 (.slice K2.A5 K2.lns.length K2.c5)).set 5 (.slice K2.A6 K2.rss.length K2.c6)).set 6 (.bool K2.dirty))
    have fR := ((((((((Fr.refl (fun q => q = (va).heap.size) (vb)).setCell (p := ⟨(va).heap.size, 0, none⟩) (.inl rfl) (.slice K2.A1 K2.own.length K2.c1)).setCell (p := ⟨(va).heap.size, 1, none⟩) (.inl rfl) (.slice K2.A2 K2.rts.length K2.c2)).setCell (p := ⟨(va).heap.size, 2, none⟩) (.inl rfl) (.slice K2.A3 K2.pts.length K2.c3)).setCell (p := ⟨(va).heap.size, 3, none⟩) (.inl rfl) (.slice K2.A4 K2.crs.length K2.c4)).setCell (p := ⟨(va).heap.size, 4, none⟩) (.inl rfl) (.slice K2.A5 K2.lns.length K2.c5)).setCell (p := ⟨(va).heap.size, 5, none⟩) (.inl rfl) (.slice K2.A6 K2.rss.length K2.c6)).setCell (p := ⟨(va).heap.size, 6, none⟩) (.inl rfl) (.bool K2.dirty))
    simp only [List.setIfInBounds_toArray, List.set_cons_zero, List.set_cons_succ] at isR
    have HBN : Hid (Bx w4 ((((((((vb).setCell ⟨(va).heap.size, 0, none⟩ (.slice K2.A1 K2.own.length K2.c1)).setCell ⟨(va).heap.size, 1, none⟩ (.slice K2.A2 K2.rts.length K2.c2)).setCell ⟨(va).heap.size, 2, none⟩ (.slice K2.A3 K2.pts.length K2.c3)).setCell ⟨(va).heap.size, 3, none⟩ (.slice K2.A4 K2.crs.length K2.c4)).setCell ⟨(va).heap.size, 4, none⟩ (.slice K2.A5 K2.lns.length K2.c5)).setCell ⟨(va).heap.size, 5, none⟩ (.slice K2.A6 K2.rss.length K2.c6)).setCell ⟨(va).heap.size, 6, none⟩ (.bool K2.dirty)) (va).heap.size K2) := Lib.hid ⟨isR, HO.out.fr fR fun k hk e => HO.out.ne_is isr (by decide) (by decide) (by decide) (by decide) (e ▸ hk), (((((((HG.out.setCell (p := ⟨(va).heap.size, 0, none⟩) (.inr HNB.out) (.slice K2.A1 K2.own.length K2.c1)).setCell (p := ⟨(va).heap.size, 1, none⟩) (.inr HNB.out) (.slice K2.A2 K2.rts.length K2.c2)).setCell (p := ⟨(va).heap.size, 2, none⟩) (.inr HNB.out) (.slice K2.A3 K2.pts.length K2.c3)).setCell (p := ⟨(va).heap.size, 3, none⟩) (.inr HNB.out) (.slice K2.A4 K2.crs.length K2.c4)).setCell (p := ⟨(va).heap.size, 4, none⟩) (.inr HNB.out) (.slice K2.A5 K2.lns.length K2.c5)).setCell (p := ⟨(va).heap.size, 5, none⟩) (.inr HNB.out) (.slice K2.A6 K2.rss.length K2.c6)).setCell (p := ⟨(va).heap.size, 6, none⟩) (.inr HNB.out) (.bool K2.dirty)), HNB.out⟩
    clear isR fR isr
    (with_reducible refine hKK.out _ _ (HS.out _ HBN.out.f) (fun hHeld => ?_))
    clear hKK KK m0 m1 m2 m3 m4 m5 m6 z0 z1 z2 z3 z4 z5 z6
    refine wpAnyH_take (i := 8) (oi := { dst := some 3, op := _, type := _, pos := _, after := _, guard := _ }) (v := ?_) rfl (by kernel_rfl) (by kernel_rfl) (by kernel_rfl) (fun _ _ _ h => h) (Or.inl ⟨by rfl, ?_⟩) (by assumption) ?_
    rotate_left
    ·intro Wx hSw
     try dsimp only at hSw
     go_simp
     try with_reducible rfl
    try simp only [Act.put, List.setIfInBounds_toArray, List.set_cons_zero, List.set_cons_succ]
    refine wpAnyH_done (by kernel_rfl) ?_ _
    go_wp2_with fail
    go_meet
    case rel => exact ⟨_, K2, rfl, rfl, HK2.out, HBN.out⟩
  ·go_simp
   have HI := Lib.hid (Is.new (wdr) 35 #[.slice none 0 0, .slice none 0 0, .slice none 0 0, .slice none 0 0, .slice none 0 0, .slice none 0 0, .bool false])
   have HNB : Hid (w4.heap.size ≤ (wdr).heap.size) := Lib.hid HG.out.size
   have HG9 := HG
   have HG := Lib.hid (HG.out.alloc (.cells #[.slice none 0 0, .slice none 0 0, .slice none 0 0, .slice none 0 0, .slice none 0 0, .slice none 0 0, .bool false] 35))
   refine hKK.out _ _ (HS.out _ HG.out) (fun hHeld => ?_)
   clear hKK KK
   refine wpAnyH_ready (rs := [0]) (by kernel_rfl) (by simp) (AllReadyH.cons rfl (fun KK hKK => ?_) (AllReadyH.nil))
   go_simp
   refine (station13_ex _).mono ?_
   rintro _ va ⟨C2, rfl, hcf2, hC2, fa⟩
   have HCF := Lib.hid hcf2
   have HC := Lib.hid hC2
   have HG := Lib.hid (fr_nil HG.out fa)
   have HI := Lib.hid (HI.out.fr fa id)
   clear fa hcf2 hC2
   refine hKK.out _ _ (HS.out _ HG.out) (fun hHeld => ?_)
   clear hKK KK
   refine wpAnyH_ready (rs := [2]) (by kernel_rfl) (by simp) (AllReadyH.cons rfl (fun KK hKK => ?_) (AllReadyH.nil))
   go_simp
   refine (KR C2 _ HC.out HG.out).mono ?_
   rintro _ vb ⟨K2, rfl, hk2, ho2, fb⟩
   have HK2 : Hid (K2.kp = (newM smF 5)) := Lib.hid (hk2.trans (by rw [HCF.out, HKP.out, sm_req1]))
   have HO := Lib.hid (ho2.base HG.out.size)
   have HG := Lib.hid (fr_nil HG.out fb)
   have HI := Lib.hid (HI.out.fr fb id)
   have hE : (gateM C2.cf K.kp (tmB 5) (reqM C2.cf K.kp 5 0)).2 = 22 := by rw [HCF.out, HKP.out, sm_req1]
   rw [hE]
   clear fb hk2 ho2 hE
   unfold Km.val Km.arr
   refine hKK.out _ _ (HS.out _ HG.out) (fun hHeld => ?_)
   clear hKK KK
   refine wpAnyH_take (i := 3) (oi := { dst := some 18, op := _, type := _, pos := _, after := _, guard := _ }) (v := ?_) rfl (by kernel_rfl) (by kernel_rfl) (by kernel_rfl) (fun _ _ _ h => h) (Or.inl ⟨by rfl, ?_⟩) (by assumption) ?_
   rotate_left
   ·intro Wx hSw
    try dsimp only at hSw
    go_simp
    try with_reducible rfl
   try simp only [Act.put, List.setIfInBounds_toArray, List.set_cons_zero, List.set_cons_succ]
   refine wpAnyH_take (i := 4) (oi := { dst := some 22, op := _, type := _, pos := _, after := _, guard := _ }) (v := ?_) rfl (by kernel_rfl) (by kernel_rfl) (by kernel_rfl) (fun _ _ _ h => h) (Or.inl ⟨by rfl, ?_⟩) (by assumption) ?_
   rotate_left
   ·intro Wx hSw
    try dsimp only at hSw
    go_simp
    try with_reducible rfl
   try simp only [Act.put, List.setIfInBounds_toArray, List.set_cons_zero, List.set_cons_succ]
   refine wpAnyH_take (i := 5) (oi := { dst := some 23, op := _, type := _, pos := _, after := _, guard := _ }) (v := ?_) rfl (by kernel_rfl) (by kernel_rfl) (by kernel_rfl) (fun _ _ _ h => h) (Or.inl ⟨by rfl, ?_⟩) (by assumption) ?_
   rotate_left
   ·intro Wx hSw
    try dsimp only at hSw
    go_simp
    try with_reducible rfl
   try simp only [Act.put, List.setIfInBounds_toArray, List.set_cons_zero, List.set_cons_succ]
   refine wpAnyH_ready (rs := [7]) (by kernel_rfl) (by simp) (AllReadyH.cons rfl (fun KK hKK => ?_) (AllReadyH.nil))
   have isr := HI.out
   obtain ⟨m0, m1, m2, m3, m4, m5, m6⟩ := seven isr
   have z0 := isr.frozen 0
   have z1 := isr.frozen 1
   have z2 := isr.frozen 2
   have z3 := isr.frozen 3
   have z4 := isr.frozen 4
   have z5 := isr.frozen 5
   have z6 := isr.frozen 6
   go_simp
   have isR := (((((((isr.set 0 (.slice K2.A1 K2.own.length K2.c1)).set 1 (.slice K2.A2 K2.rts.length K2.c2)).set 2 (.slice K2.A3 K2.pts.length K2.c3)).set 3 (.slice K2.A4 K2.crs.length K2.c4)).set 4 (.slice K2.A5 K2.lns.length K2.c5)).set 5 (.slice K2.A6 K2.rss.length K2.c6)).set 6 (.bool K2.dirty))
   have fR := ((((((((Fr.refl (fun q => q = (wdr).heap.size) (vb)).setCell (p := ⟨(wdr).heap.size, 0, none⟩) (.inl rfl) (.slice K2.A1 K2.own.length K2.c1)).setCell (p := ⟨(wdr).heap.size, 1, none⟩) (.inl rfl) (.slice K2.A2 K2.rts.length K2.c2)).setCell (p := ⟨(wdr).heap.size, 2, none⟩) (.inl rfl) (.slice K2.A3 K2.pts.length K2.c3)).setCell (p := ⟨(wdr).heap.size, 3, none⟩) (.inl rfl) (.slice K2.A4 K2.crs.length K2.c4)).setCell (p := ⟨(wdr).heap.size, 4, none⟩) (.inl rfl) (.slice K2.A5 K2.lns.length K2.c5)).setCell (p := ⟨(wdr).heap.size, 5, none⟩) (.inl rfl) (.slice K2.A6 K2.rss.length K2.c6)).setCell (p := ⟨(wdr).heap.size, 6, none⟩) (.inl rfl) (.bool K2.dirty))
   simp only [List.setIfInBounds_toArray, List.set_cons_zero, List.set_cons_succ] at isR
   have HBN : Hid (Bx w4 ((((((((vb).setCell ⟨(wdr).heap.size, 0, none⟩ (.slice K2.A1 K2.own.length K2.c1)).setCell ⟨(wdr).heap.size, 1, none⟩ (.slice K2.A2 K2.rts.length K2.c2)).setCell ⟨(wdr).heap.size, 2, none⟩ (.slice K2.A3 K2.pts.length K2.c3)).setCell ⟨(wdr).heap.size, 3, none⟩ (.slice K2.A4 K2.crs.length K2.c4)).setCell ⟨(wdr).heap.size, 4, none⟩ (.slice K2.A5 K2.lns.length K2.c5)).setCell ⟨(wdr).heap.size, 5, none⟩ (.slice K2.A6 K2.rss.length K2.c6)).setCell ⟨(wdr).heap.size, 6, none⟩ (.bool K2.dirty)) (wdr).heap.size K2) := Lib.hid ⟨isR, HO.out.fr fR fun k hk e => HO.out.ne_is isr (by decide) (by decide) (by decide) (by decide) (e ▸ hk), (((((((HG.out.setCell (p := ⟨(wdr).heap.size, 0, none⟩) (.inr HNB.out) (.slice K2.A1 K2.own.length K2.c1)).setCell (p := ⟨(wdr).heap.size, 1, none⟩) (.inr HNB.out) (.slice K2.A2 K2.rts.length K2.c2)).setCell (p := ⟨(wdr).heap.size, 2, none⟩) (.inr HNB.out) (.slice K2.A3 K2.pts.length K2.c3)).setCell (p := ⟨(wdr).heap.size, 3, none⟩) (.inr HNB.out) (.slice K2.A4 K2.crs.length K2.c4)).setCell (p := ⟨(wdr).heap.size, 4, none⟩) (.inr HNB.out) (.slice K2.A5 K2.lns.length K2.c5)).setCell (p := ⟨(wdr).heap.size, 5, none⟩) (.inr HNB.out) (.slice K2.A6 K2.rss.length K2.c6)).setCell (p := ⟨(wdr).heap.size, 6, none⟩) (.inr HNB.out) (.bool K2.dirty)), HNB.out⟩
   clear isR fR isr
   (with_reducible refine hKK.out _ _ (HS.out _ HBN.out.f) (fun hHeld => ?_))
   clear hKK KK m0 m1 m2 m3 m4 m5 m6 z0 z1 z2 z3 z4 z5 z6
   refine wpAnyH_take (i := 8) (oi := { dst := some 3, op := _, type := _, pos := _, after := _, guard := _ }) (v := ?_) rfl (by kernel_rfl) (by kernel_rfl) (by kernel_rfl) (fun _ _ _ h => h) (Or.inl ⟨by rfl, ?_⟩) (by assumption) ?_
   rotate_left
   ·intro Wx hSw
    try dsimp only at hSw
    go_simp
    try with_reducible rfl
   try simp only [Act.put, List.setIfInBounds_toArray, List.set_cons_zero, List.set_cons_succ]
   refine wpAnyH_done (by kernel_rfl) ?_ _
   go_wp2_with fail
   go_meet
   case rel => exact ⟨_, K2, rfl, rfl, HK2.out, HBN.out⟩
 case rest =>
  obtain ⟨nb, K2, rfl, rfl, hk2, hb2⟩ := hcut
  have HBX := Lib.hid (HBX.out.fr hb2.f)
  have HF5 := Lib.hid hb2.f
  clear hk2 hb2 HOK
  obtain ⟨g, hA, -, -⟩ := own_some HBX.out.own.own (by rw [HLEN.out]; decide)
  go_upto_region 5 with fail
  generalize hwc : wc = w5 at *
  clear hwc
  obtain ⟨HB1, HB2, ⟨u1, q1⟩, z1, ⟨u2, q2⟩, z2, hkg⟩ := two_own HBX.out HLEN.out hA
  have c0 : w5.cell? ⟨kb, 0, none⟩ = some (.slice (some ⟨g, 0, none⟩) 5 K.c1) := by
   have := HBX.out.is.cell 0
   simpa [Km.arr, hA, HLEN.out] using this
  have HA := Lib.hid hA
  have HKG := Lib.hid hkg
  clear hA hkg hd5
  have HS5 : Hid (∀ W K', Bx w1 W kb K' → K'.A1 = K.A1 → K'.c1 = K.c1 → K'.own.length = 5 → (fun Wx => Wx.cell? ⟨kb, 0, none⟩ = some (.slice (some ⟨g, 0, none⟩) 5 K.c1)) W) := Lib.hid fun W K' h e1 e2 e3 => by
   have := h.is.cell 0
   simpa [Km.arr, e1, e2, e3, HA.out] using this
  obtain ⟨HD1, HD2, ⟨u3, q3⟩, z3, ⟨u4, q4⟩, z4, -⟩ := two_own (HBX.out.fr (Fr.refl (fun _ => False) w5).drew) HLEN.out HA.out
  clear HB1 HB2 q1 q2 z1 z2
  refine wp_region_held_drew (S := (fun Wx => Wx.cell? ⟨kb, 0, none⟩ = some (.slice (some ⟨g, 0, none⟩) 5 K.c1))) (by kernel_rfl) (HS5.out _ _ (HBX.out.fr (Fr.refl (fun _ => False) w5).drew) rfl rfl HLEN.out) (fun hHeld => ?_)
  generalize w5.drew = w5d at *
  refine wpAnyH_take (i := 0) (oi := { dst := some 24, op := _, type := _, pos := _, after := _, guard := _ }) (v := ?_) rfl (by kernel_rfl) (by kernel_rfl) (by kernel_rfl) (fun _ _ _ h => h) (Or.inl ⟨by rfl, ?_⟩) (by assumption) ?_
  rotate_left
  ·intro Wx hSw
   try dsimp only at hSw
   go_simp
   try with_reducible rfl
  try simp only [Act.put, List.setIfInBounds_toArray, List.set_cons_zero, List.set_cons_succ]
  refine wpAnyH_take (i := 1) (oi := { dst := some 25, op := _, type := _, pos := _, after := _, guard := _ }) (v := ?_) rfl (by kernel_rfl) (by kernel_rfl) (by kernel_rfl) (fun _ _ _ h => h) (Or.inl ⟨by rfl, ?_⟩) (by assumption) ?_
  rotate_left
  ·intro Wx hSw
   try dsimp only at hSw
   go_simp
   try with_reducible rfl
  try simp only [Act.put, List.setIfInBounds_toArray, List.set_cons_zero, List.set_cons_succ]
  refine wpAnyH_take (i := 2) (oi := { dst := some 26, op := _, type := _, pos := _, after := _, guard := _ }) (v := ?_) rfl (by kernel_rfl) (by kernel_rfl) (by kernel_rfl) (fun _ _ _ h => h) (Or.inl ⟨by rfl, ?_⟩) (by assumption) ?_
  rotate_left
  ·intro Wx hSw
   try dsimp only at hSw
   go_simp
   try with_reducible rfl
  try simp only [Act.put, List.setIfInBounds_toArray, List.set_cons_zero, List.set_cons_succ]
  refine wpAnyH_take (i := 3) (oi := { dst := some 27, op := _, type := _, pos := _, after := _, guard := _ }) (v := ?_) rfl (by kernel_rfl) (by kernel_rfl) (by kernel_rfl) (fun _ _ _ h => h) (Or.inl ⟨by rfl, ?_⟩) (by assumption) ?_
  rotate_left
  ·intro Wx hSw
   try dsimp only at hSw
   go_simp
   try with_reducible rfl
  try simp only [Act.put, List.setIfInBounds_toArray, List.set_cons_zero, List.set_cons_succ]
  refine wpAnyH_take (i := 4) (oi := { dst := some 28, op := _, type := _, pos := _, after := _, guard := _ }) (v := ?_) rfl (by kernel_rfl) (by kernel_rfl) (by kernel_rfl) (fun _ _ _ h => h) (Or.inl ⟨by rfl, ?_⟩) (by assumption) ?_
  rotate_left
  ·intro Wx hSw
   try dsimp only at hSw
   go_simp
   try with_reducible rfl
  try simp only [Act.put, List.setIfInBounds_toArray, List.set_cons_zero, List.set_cons_succ]
  refine wpAnyH_ready (rs := [5]) (by kernel_rfl) (by simp) (AllReadyH.cons rfl (fun KK hKK => ?_) AllReadyH.nil)
  go_simp
  refine hKK.out _ _ (HS5.out _ _ (HD1.out) rfl rfl (by show (K.own.set 1 0).length = 5; rw [List.length_set]; exact HLEN.out)) (fun hHeld => ?_)
  clear hKK KK
  refine wpAnyH_take (i := 6) (oi := { dst := some 29, op := _, type := _, pos := _, after := _, guard := _ }) (v := ?_) rfl (by kernel_rfl) (by kernel_rfl) (by kernel_rfl) (fun _ _ _ h => h) (Or.inl ⟨by rfl, ?_⟩) (by assumption) ?_
  rotate_left
  ·intro Wx hSw
   try dsimp only at hSw
   go_simp
   try with_reducible rfl
  try simp only [Act.put, List.setIfInBounds_toArray, List.set_cons_zero, List.set_cons_succ]
  refine wpAnyH_ready (rs := [7]) (by kernel_rfl) (by simp) (AllReadyH.cons rfl (fun KK hKK => ?_) AllReadyH.nil)
  go_simp
  refine hKK.out _ _ (HS5.out _ _ (HD2.out) rfl rfl (by show ((K.own.set 1 0).set 2 0).length = 5; rw [List.length_set, List.length_set]; exact HLEN.out)) (fun hHeld => ?_)
  clear hKK KK
  refine wpAnyH_done (by kernel_rfl) ?_ _
  have HK1 : Hid (({ K with own := (K.own.set 1 0).set 2 0 } : Km).kp = smK1) := Lib.hid (by
   have h := HKP.out
   unfold Km.kp at h ⊢
   have e : K.own = (newM smF 5).own := congrArg Kp.own h
   have e2 : K.dirty = true := congrArg Kp.dirty h
   unfold smK1
   simp only [Kp.mk.injEq]
   exact ⟨by rw [e]; rfl, congrArg Kp.rts h, congrArg Kp.pts h, congrArg Kp.crs h, congrArg Kp.lns h, congrArg Kp.rss h, e2⟩)
  have HF6 : Hid (Fr (fun _ => False) w1 ((w5d.setCell ⟨g, 1, none⟩ (.int .i64 0)).setCell ⟨g, 2, none⟩ (.int .i64 0))) := Lib.hid HD2.out.f
  clear q3 q4 z3 z4 c0 HD1 HS5 HKG
  go_upto_region 6 with fail
  have HBX := HD2
  clear HD2
  generalize ((w5d.setCell ⟨g, 1, none⟩ (.int .i64 0)).setCell ⟨g, 2, none⟩ (.int .i64 0)) = w6 at *
  generalize ({ K with own := (K.own.set 1 0).set 2 0 } : Km) = K5 at *
  clear HKP HLEN HA
  have HKP := HK1
  clear HK1
  obtain ⟨K, hK9⟩ : ∃ K : Km, K = K5 := ⟨_, rfl⟩
  subst hK9
  have HOK : Hid (∀ W, Fr (fun _ => False) w6 W → K.Ok W) := Lib.hid fun W f => ((HBX.out.own.ok (by rw [show K.own = smK1.own from congrArg Kp.own HKP.out, sm_own1]; decide) (by rw [show K.rts = (newM smF 5).rts from congrArg Kp.rts HKP.out]; decide) (by rw [show K.pts = (newM smF 5).pts from congrArg Kp.pts HKP.out]; decide) (by rw [show K.crs = (newM smF 5).crs from congrArg Kp.crs HKP.out]; decide) (by rw [show K.lns = (newM smF 5).lns from congrArg Kp.lns HKP.out]; decide) (by rw [show K.rss = (newM smF 5).rss from congrArg Kp.rss HKP.out]; decide)).fr f)
  go_cut [4, 5] from 30 (fun v2 v3 wx => ∃ (nb : Nat) (K2 : Km), v2 = .pointer (some ⟨nb, 0, none⟩) ∧ v3 = .int .i64 0 ∧ K2.kp = smK3 ∧ Bx w6 wx nb K2)
  case first =>
   have KR : ∀ (C : Cm) W, C.Ok W → Fr (fun _ => False) w6 W → Calls Tryz.prog 33 #[C.val, .agg #[.slice K.A1 K.own.length K.c1, .slice K.A2 K.rts.length K.c2, .slice K.A3 K.pts.length K.c3, .slice K.A4 K.crs.length K.c4, .slice K.A5 K.lns.length K.c5, .slice K.A6 K.rss.length K.c6, .bool K.dirty], .int .i64 5, .int .i64 0] W (AnsE W (gateM C.cf K.kp (tmB 5) (reqM C.cf K.kp 5 0))) := fun C W hC f => call_Request_fit C K W hC (HOK.out W f) 5 0
   have HS : Hid (∀ W, Fr (fun _ => False) w6 W → (fun Wx => Wx.cell? ⟨kb, 0, none⟩ = some (.slice K.A1 K.own.length K.c1) ∧ Wx.cell? ⟨kb, 1, none⟩ = some (.slice K.A2 K.rts.length K.c2) ∧ Wx.cell? ⟨kb, 2, none⟩ = some (.slice K.A3 K.pts.length K.c3) ∧ Wx.cell? ⟨kb, 3, none⟩ = some (.slice K.A4 K.crs.length K.c4) ∧ Wx.cell? ⟨kb, 4, none⟩ = some (.slice K.A5 K.lns.length K.c5) ∧ Wx.cell? ⟨kb, 5, none⟩ = some (.slice K.A6 K.rss.length K.c6) ∧ Wx.cell? ⟨kb, 6, none⟩ = some (.bool K.dirty)) W) := Lib.hid fun W fW => core_cells (K := K) (HBX.out.is.fr fW id)
   have HG := Lib.hid (Fr.refl (fun _ => False) w6).drew
   refine wp_region_held_drew (S := (fun Wx => Wx.cell? ⟨kb, 0, none⟩ = some (.slice K.A1 K.own.length K.c1) ∧ Wx.cell? ⟨kb, 1, none⟩ = some (.slice K.A2 K.rts.length K.c2) ∧ Wx.cell? ⟨kb, 2, none⟩ = some (.slice K.A3 K.pts.length K.c3) ∧ Wx.cell? ⟨kb, 3, none⟩ = some (.slice K.A4 K.crs.length K.c4) ∧ Wx.cell? ⟨kb, 4, none⟩ = some (.slice K.A5 K.lns.length K.c5) ∧ Wx.cell? ⟨kb, 5, none⟩ = some (.slice K.A6 K.rss.length K.c6) ∧ Wx.cell? ⟨kb, 6, none⟩ = some (.bool K.dirty))) (by kernel_rfl) (HS.out _ (Fr.refl _ w6).drew) (fun hHeld => ?_)
   generalize w6.drew = wdr at *
   refine wpAnyH_take (i := 1) (oi := { dst := some 32, op := _, type := _, pos := _, after := _, guard := _ }) (v := ?_) rfl (by kernel_rfl) (by kernel_rfl) (by kernel_rfl) (fun _ _ _ h => h) (Or.inl ⟨by rfl, ?_⟩) (by assumption) ?_
   rotate_left
   ·intro Wx hSw
    try dsimp only at hSw
    go_simp
    try with_reducible rfl
   try simp only [Act.put, List.setIfInBounds_toArray, List.set_cons_zero, List.set_cons_succ]
   refine wpAnyH_ready (rs := [0, 6]) (by kernel_rfl) (by simp) (AllReadyH.cons rfl (fun KK hKK => ?_) (AllReadyH.cons rfl (fun KK hKK => ?_) (AllReadyH.nil)))
   ·go_simp
    refine (station13_ex _).mono ?_
    rintro _ va ⟨C2, rfl, hcf2, hC2, fa⟩
    have HCF := Lib.hid hcf2
    have HC := Lib.hid hC2
    have HG := Lib.hid (fr_nil HG.out fa)
    clear fa hcf2 hC2
    refine hKK.out _ _ (HS.out _ HG.out) (fun hHeld => ?_)
    clear hKK KK
    refine wpAnyH_ready (rs := [2, 6]) (by kernel_rfl) (by simp) (AllReadyH.cons rfl (fun KK hKK => ?_) (AllReadyH.cons rfl (fun KK hKK => ?_) (AllReadyH.nil)))
    ·go_simp
     refine (KR C2 _ HC.out HG.out).mono ?_
     rintro _ vb ⟨K2, rfl, hk2, ho2, fb⟩
     have HK2 : Hid (K2.kp = smK3) := Lib.hid (hk2.trans (by rw [HCF.out, HKP.out, sm_req2]))
     have HO := Lib.hid (ho2.base HG.out.size)
     have HG := Lib.hid (fr_nil HG.out fb)
     have hE : (gateM C2.cf K.kp (tmB 5) (reqM C2.cf K.kp 5 0)).2 = 0 := by rw [HCF.out, HKP.out, sm_req2]
     rw [hE]
     clear fb hk2 ho2 hE
     unfold Km.val Km.arr
     refine hKK.out _ _ (HS.out _ HG.out) (fun hHeld => ?_)
     clear hKK KK
     refine wpAnyH_take (i := 3) (oi := { dst := some 30, op := _, type := _, pos := _, after := _, guard := _ }) (v := ?_) rfl (by kernel_rfl) (by kernel_rfl) (by kernel_rfl) (fun _ _ _ h => h) (Or.inl ⟨by rfl, ?_⟩) (by assumption) ?_
     rotate_left
     ·intro Wx hSw
      try dsimp only at hSw
      go_simp
      try with_reducible rfl
     try simp only [Act.put, List.setIfInBounds_toArray, List.set_cons_zero, List.set_cons_succ]
     refine wpAnyH_take (i := 4) (oi := { dst := some 34, op := _, type := _, pos := _, after := _, guard := _ }) (v := ?_) rfl (by kernel_rfl) (by kernel_rfl) (by kernel_rfl) (fun _ _ _ h => h) (Or.inl ⟨by rfl, ?_⟩) (by assumption) ?_
     rotate_left
     ·intro Wx hSw
      try dsimp only at hSw
      go_simp
      try with_reducible rfl
     try simp only [Act.put, List.setIfInBounds_toArray, List.set_cons_zero, List.set_cons_succ]
     refine wpAnyH_take (i := 5) (oi := { dst := some 35, op := _, type := _, pos := _, after := _, guard := _ }) (v := ?_) rfl (by kernel_rfl) (by kernel_rfl) (by kernel_rfl) (fun _ _ _ h => h) (Or.inl ⟨by rfl, ?_⟩) (by assumption) ?_
     rotate_left
     ·intro Wx hSw
      try dsimp only at hSw
      go_simp
      try with_reducible rfl
     try simp only [Act.put, List.setIfInBounds_toArray, List.set_cons_zero, List.set_cons_succ]
     refine wpAnyH_ready (rs := [6]) (by kernel_rfl) (by simp) (AllReadyH.cons rfl (fun KK hKK => ?_) (AllReadyH.nil))
     go_simp
     have HI := Lib.hid (Is.new (vb) 35 #[.slice none 0 0, .slice none 0 0, .slice none 0 0, .slice none 0 0, .slice none 0 0, .slice none 0 0, .bool false])
     have HNB : Hid (w6.heap.size ≤ (vb).heap.size) := Lib.hid HG.out.size
     have HG9 := HG
     have HG := Lib.hid (HG.out.alloc (.cells #[.slice none 0 0, .slice none 0 0, .slice none 0 0, .slice none 0 0, .slice none 0 0, .slice none 0 0, .bool false] 35))
     have HO9 := HO
     have HO := Lib.hid (HO.out.fr ((Fr.refl (fun _ => False) (vb)).alloc (.cells #[.slice none 0 0, .slice none 0 0, .slice none 0 0, .slice none 0 0, .slice none 0 0, .slice none 0 0, .bool false] 35)) fun _ _ => id)
     refine hKK.out _ _ (HS.out _ HG.out) (fun hHeld => ?_)
     clear hKK KK
     refine wpAnyH_ready (rs := [7]) (by kernel_rfl) (by simp) (AllReadyH.cons rfl (fun KK hKK => ?_) (AllReadyH.nil))
     go_simp
     have isr := HI.out
     obtain ⟨m0, m1, m2, m3, m4, m5, m6⟩ := seven isr
     have HBN : Hid (Bx w6 ((vb).alloc (.cells #[.slice K2.A1 K2.own.length K2.c1, .slice K2.A2 K2.rts.length K2.c2, .slice K2.A3 K2.pts.length K2.c3, .slice K2.A4 K2.crs.length K2.c4, .slice K2.A5 K2.lns.length K2.c5, .slice K2.A6 K2.rss.length K2.c6, .bool K2.dirty] 35)) (vb).heap.size K2) := Lib.hid ⟨Is.new _ _ _, HO9.out.fr ((Fr.refl _ _).alloc _) fun _ _ => id, HG9.out.alloc _, HNB.out⟩
     clear isr
     (with_reducible refine hKK.out _ _ (HS.out _ HBN.out.f) (fun hHeld => ?_))
     clear hKK KK m0 m1 m2 m3 m4 m5 m6
     refine wpAnyH_take (i := 8) (oi := { dst := some 5, op := _, type := _, pos := _, after := _, guard := _ }) (v := ?_) rfl (by kernel_rfl) (by kernel_rfl) (by kernel_rfl) (fun _ _ _ h => h) (Or.inl ⟨by rfl, ?_⟩) (by assumption) ?_
     rotate_left
     ·intro Wx hSw
      try dsimp only at hSw
      go_simp
      try with_reducible rfl
     try simp only [Act.put, List.setIfInBounds_toArray, List.set_cons_zero, List.set_cons_succ]
     refine wpAnyH_done (by kernel_rfl) ?_ _
     go_wp2_with fail
     go_meet
     case rel => exact ⟨_, K2, rfl, rfl, HK2.out, HBN.out⟩
    ·go_simp
     have HI := Lib.hid (Is.new (va) 35 #[.slice none 0 0, .slice none 0 0, .slice none 0 0, .slice none 0 0, .slice none 0 0, .slice none 0 0, .bool false])
     have HNB : Hid (w6.heap.size ≤ (va).heap.size) := Lib.hid HG.out.size
     have HG9 := HG
     have HG := Lib.hid (HG.out.alloc (.cells #[.slice none 0 0, .slice none 0 0, .slice none 0 0, .slice none 0 0, .slice none 0 0, .slice none 0 0, .bool false] 35))
     have HC := Lib.hid (HC.out.fr ((Fr.refl (fun _ => False) (va)).alloc (.cells #[.slice none 0 0, .slice none 0 0, .slice none 0 0, .slice none 0 0, .slice none 0 0, .slice none 0 0, .bool false] 35)))
     refine hKK.out _ _ (HS.out _ HG.out) (fun hHeld => ?_)
     clear hKK KK
     refine wpAnyH_ready (rs := [2]) (by kernel_rfl) (by simp) (AllReadyH.cons rfl (fun KK hKK => ?_) (AllReadyH.nil))
     go_simp
     refine (KR C2 _ HC.out HG.out).mono ?_
     rintro _ vb ⟨K2, rfl, hk2, ho2, fb⟩
     have HK2 : Hid (K2.kp = smK3) := Lib.hid (hk2.trans (by rw [HCF.out, HKP.out, sm_req2]))
     have HO := Lib.hid (ho2.base HG.out.size)
     have HG := Lib.hid (fr_nil HG.out fb)
     have HI := Lib.hid (HI.out.fr fb id)
     have hE : (gateM C2.cf K.kp (tmB 5) (reqM C2.cf K.kp 5 0)).2 = 0 := by rw [HCF.out, HKP.out, sm_req2]
     rw [hE]
     clear fb hk2 ho2 hE
     unfold Km.val Km.arr
     refine hKK.out _ _ (HS.out _ HG.out) (fun hHeld => ?_)
     clear hKK KK
     refine wpAnyH_take (i := 3) (oi := { dst := some 30, op := _, type := _, pos := _, after := _, guard := _ }) (v := ?_) rfl (by kernel_rfl) (by kernel_rfl) (by kernel_rfl) (fun _ _ _ h => h) (Or.inl ⟨by rfl, ?_⟩) (by assumption) ?_
     rotate_left
     ·intro Wx hSw
      try dsimp only at hSw
      go_simp
      try with_reducible rfl
     try simp only [Act.put, List.setIfInBounds_toArray, List.set_cons_zero, List.set_cons_succ]
     refine wpAnyH_take (i := 4) (oi := { dst := some 34, op := _, type := _, pos := _, after := _, guard := _ }) (v := ?_) rfl (by kernel_rfl) (by kernel_rfl) (by kernel_rfl) (fun _ _ _ h => h) (Or.inl ⟨by rfl, ?_⟩) (by assumption) ?_
     rotate_left
     ·intro Wx hSw
      try dsimp only at hSw
      go_simp
      try with_reducible rfl
     try simp only [Act.put, List.setIfInBounds_toArray, List.set_cons_zero, List.set_cons_succ]
     refine wpAnyH_take (i := 5) (oi := { dst := some 35, op := _, type := _, pos := _, after := _, guard := _ }) (v := ?_) rfl (by kernel_rfl) (by kernel_rfl) (by kernel_rfl) (fun _ _ _ h => h) (Or.inl ⟨by rfl, ?_⟩) (by assumption) ?_
     rotate_left
     ·intro Wx hSw
      try dsimp only at hSw
      go_simp
      try with_reducible rfl
     try simp only [Act.put, List.setIfInBounds_toArray, List.set_cons_zero, List.set_cons_succ]
     refine wpAnyH_ready (rs := [7]) (by kernel_rfl) (by simp) (AllReadyH.cons rfl (fun KK hKK => ?_) (AllReadyH.nil))
     have isr := HI.out
     obtain ⟨m0, m1, m2, m3, m4, m5, m6⟩ := seven isr
     have z0 := isr.frozen 0
     have z1 := isr.frozen 1
     have z2 := isr.frozen 2
     have z3 := isr.frozen 3
     have z4 := isr.frozen 4
     have z5 := isr.frozen 5
     have z6 := isr.frozen 6
     go_simp
     have isR := (((((((isr.set 0 (.slice K2.A1 K2.own.length K2.c1)).set 1 (.slice K2.A2 K2.rts.length K2.c2)).set 2 (.slice K2.A3 K2.pts.length K2.c3)).set 3 (.slice K2.A4 K2.crs.length K2.c4)).set 4 (.slice K2.A5 K2.lns.length K2.c5)).set 5 (.slice K2.A6 K2.rss.length K2.c6)).set 6 (.bool K2.dirty))
     have fR := ((((((((Fr.refl (fun q => q = (va).heap.size) (vb)).setCell (p := ⟨(va).heap.size, 0, none⟩) (.inl rfl) (.slice K2.A1 K2.own.length K2.c1)).setCell (p := ⟨(va).heap.size, 1, none⟩) (.inl rfl) (.slice K2.A2 K2.rts.length K2.c2)).setCell (p := ⟨(va).heap.size, 2, none⟩) (.inl rfl) (.slice K2.A3 K2.pts.length K2.c3)).setCell (p := ⟨(va).heap.size, 3, none⟩) (.inl rfl) (.slice K2.A4 K2.crs.length K2.c4)).setCell (p := ⟨(va).heap.size, 4, none⟩) (.inl rfl) (.slice K2.A5 K2.lns.length K2.c5)).setCell (p := ⟨(va).heap.size, 5, none⟩) (.inl rfl) (.slice K2.A6 K2.rss.length K2.c6)).setCell (p := ⟨(va).heap.size, 6, none⟩) (.inl rfl) (.bool K2.dirty))
     simp only [List.setIfInBounds_toArray, List.set_cons_zero, List.set_cons_succ] at isR
     have HBN : Hid (Bx w6 ((((((((vb).setCell ⟨(va).heap.size, 0, none⟩ (.slice K2.A1 K2.own.length K2.c1)).setCell ⟨(va).heap.size, 1, none⟩ (.slice K2.A2 K2.rts.length K2.c2)).setCell ⟨(va).heap.size, 2, none⟩ (.slice K2.A3 K2.pts.length K2.c3)).setCell ⟨(va).heap.size, 3, none⟩ (.slice K2.A4 K2.crs.length K2.c4)).setCell ⟨(va).heap.size, 4, none⟩ (.slice K2.A5 K2.lns.length K2.c5)).setCell ⟨(va).heap.size, 5, none⟩ (.slice K2.A6 K2.rss.length K2.c6)).setCell ⟨(va).heap.size, 6, none⟩ (.bool K2.dirty)) (va).heap.size K2) := Lib.hid ⟨isR, HO.out.fr fR fun k hk e => HO.out.ne_is isr (by decide) (by decide) (by decide) (by decide) (e ▸ hk), (((((((HG.out.setCell (p := ⟨(va).heap.size, 0, none⟩) (.inr HNB.out) (.slice K2.A1 K2.own.length K2.c1)).setCell (p := ⟨(va).heap.size, 1, none⟩) (.inr HNB.out) (.slice K2.A2 K2.rts.length K2.c2)).setCell (p := ⟨(va).heap.size, 2, none⟩) (.inr HNB.out) (.slice K2.A3 K2.pts.length K2.c3)).setCell (p := ⟨(va).heap.size, 3, none⟩) (.inr HNB.out) (.slice K2.A4 K2.crs.length K2.c4)).setCell (p := ⟨(va).heap.size, 4, none⟩) (.inr HNB.out) (.slice K2.A5 K2.lns.length K2.c5)).setCell (p := ⟨(va).heap.size, 5, none⟩) (.inr HNB.out) (.slice K2.A6 K2.rss.length K2.c6)).setCell (p := ⟨(va).heap.size, 6, none⟩) (.inr HNB.out) (.bool K2.dirty)), HNB.out⟩
     clear isR fR isr
     (with_reducible refine hKK.out _ _ (HS.out _ HBN.out.f) (fun hHeld => ?_))
     clear hKK KK m0 m1 m2 m3 m4 m5 m6 z0 z1 z2 z3 z4 z5 z6
     refine wpAnyH_take (i := 8) (oi := { dst := some 5, op := _, type := _, pos := _, after := _, guard := _ }) (v := ?_) rfl (by kernel_rfl) (by kernel_rfl) (by kernel_rfl) (fun _ _ _ h => h) (Or.inl ⟨by rfl, ?_⟩) (by assumption) ?_
     rotate_left
     ·intro Wx hSw
      try dsimp only at hSw
      go_simp
      try with_reducible rfl
     try simp only [Act.put, List.setIfInBounds_toArray, List.set_cons_zero, List.set_cons_succ]
     refine wpAnyH_done (by kernel_rfl) ?_ _
     go_wp2_with fail
     go_meet
     case rel => exact ⟨_, K2, rfl, rfl, HK2.out, HBN.out⟩
   ·go_simp
    have HI := Lib.hid (Is.new (wdr) 35 #[.slice none 0 0, .slice none 0 0, .slice none 0 0, .slice none 0 0, .slice none 0 0, .slice none 0 0, .bool false])
    have HNB : Hid (w6.heap.size ≤ (wdr).heap.size) := Lib.hid HG.out.size
    have HG9 := HG
    have HG := Lib.hid (HG.out.alloc (.cells #[.slice none 0 0, .slice none 0 0, .slice none 0 0, .slice none 0 0, .slice none 0 0, .slice none 0 0, .bool false] 35))
    refine hKK.out _ _ (HS.out _ HG.out) (fun hHeld => ?_)
    clear hKK KK
    refine wpAnyH_ready (rs := [0]) (by kernel_rfl) (by simp) (AllReadyH.cons rfl (fun KK hKK => ?_) (AllReadyH.nil))
    go_simp
    refine (station13_ex _).mono ?_
    rintro _ va ⟨C2, rfl, hcf2, hC2, fa⟩
    have HCF := Lib.hid hcf2
    have HC := Lib.hid hC2
    have HG := Lib.hid (fr_nil HG.out fa)
    have HI := Lib.hid (HI.out.fr fa id)
    clear fa hcf2 hC2
    refine hKK.out _ _ (HS.out _ HG.out) (fun hHeld => ?_)
    clear hKK KK
    refine wpAnyH_ready (rs := [2]) (by kernel_rfl) (by simp) (AllReadyH.cons rfl (fun KK hKK => ?_) (AllReadyH.nil))
    go_simp
    refine (KR C2 _ HC.out HG.out).mono ?_
    rintro _ vb ⟨K2, rfl, hk2, ho2, fb⟩
    have HK2 : Hid (K2.kp = smK3) := Lib.hid (hk2.trans (by rw [HCF.out, HKP.out, sm_req2]))
    have HO := Lib.hid (ho2.base HG.out.size)
    have HG := Lib.hid (fr_nil HG.out fb)
    have HI := Lib.hid (HI.out.fr fb id)
    have hE : (gateM C2.cf K.kp (tmB 5) (reqM C2.cf K.kp 5 0)).2 = 0 := by rw [HCF.out, HKP.out, sm_req2]
    rw [hE]
    clear fb hk2 ho2 hE
    unfold Km.val Km.arr
    refine hKK.out _ _ (HS.out _ HG.out) (fun hHeld => ?_)
    clear hKK KK
    refine wpAnyH_take (i := 3) (oi := { dst := some 30, op := _, type := _, pos := _, after := _, guard := _ }) (v := ?_) rfl (by kernel_rfl) (by kernel_rfl) (by kernel_rfl) (fun _ _ _ h => h) (Or.inl ⟨by rfl, ?_⟩) (by assumption) ?_
    rotate_left
    ·intro Wx hSw
     try dsimp only at hSw
     go_simp
     try with_reducible rfl
    try simp only [Act.put, List.setIfInBounds_toArray, List.set_cons_zero, List.set_cons_succ]
    refine wpAnyH_take (i := 4) (oi := { dst := some 34, op := _, type := _, pos := _, after := _, guard := _ }) (v := ?_) rfl (by kernel_rfl) (by kernel_rfl) (by kernel_rfl) (fun _ _ _ h => h) (Or.inl ⟨by rfl, ?_⟩) (by assumption) ?_
    rotate_left
    ·intro Wx hSw
     try dsimp only at hSw
     go_simp
     try with_reducible rfl
    try simp only [Act.put, List.setIfInBounds_toArray, List.set_cons_zero, List.set_cons_succ]
    refine wpAnyH_take (i := 5) (oi := { dst := some 35, op := _, type := _, pos := _, after := _, guard := _ }) (v := ?_) rfl (by kernel_rfl) (by kernel_rfl) (by kernel_rfl) (fun _ _ _ h => h) (Or.inl ⟨by rfl, ?_⟩) (by assumption) ?_
    rotate_left
    ·intro Wx hSw
     try dsimp only at hSw
     go_simp
     try with_reducible rfl
    try simp only [Act.put, List.setIfInBounds_toArray, List.set_cons_zero, List.set_cons_succ]
    refine wpAnyH_ready (rs := [7]) (by kernel_rfl) (by simp) (AllReadyH.cons rfl (fun KK hKK => ?_) (AllReadyH.nil))
    have isr := HI.out
    obtain ⟨m0, m1, m2, m3, m4, m5, m6⟩ := seven isr
    have z0 := isr.frozen 0
    have z1 := isr.frozen 1
    have z2 := isr.frozen 2
    have z3 := isr.frozen 3
    have z4 := isr.frozen 4
    have z5 := isr.frozen 5
    have z6 := isr.frozen 6
    go_simp
    have isR := (((((((isr.set 0 (.slice K2.A1 K2.own.length K2.c1)).set 1 (.slice K2.A2 K2.rts.length K2.c2)).set 2 (.slice K2.A3 K2.pts.length K2.c3)).set 3 (.slice K2.A4 K2.crs.length K2.c4)).set 4 (.slice K2.A5 K2.lns.length K2.c5)).set 5 (.slice K2.A6 K2.rss.length K2.c6)).set 6 (.bool K2.dirty))
    have fR := ((((((((Fr.refl (fun q => q = (wdr).heap.size) (vb)).setCell (p := ⟨(wdr).heap.size, 0, none⟩) (.inl rfl) (.slice K2.A1 K2.own.length K2.c1)).setCell (p := ⟨(wdr).heap.size, 1, none⟩) (.inl rfl) (.slice K2.A2 K2.rts.length K2.c2)).setCell (p := ⟨(wdr).heap.size, 2, none⟩) (.inl rfl) (.slice K2.A3 K2.pts.length K2.c3)).setCell (p := ⟨(wdr).heap.size, 3, none⟩) (.inl rfl) (.slice K2.A4 K2.crs.length K2.c4)).setCell (p := ⟨(wdr).heap.size, 4, none⟩) (.inl rfl) (.slice K2.A5 K2.lns.length K2.c5)).setCell (p := ⟨(wdr).heap.size, 5, none⟩) (.inl rfl) (.slice K2.A6 K2.rss.length K2.c6)).setCell (p := ⟨(wdr).heap.size, 6, none⟩) (.inl rfl) (.bool K2.dirty))
    simp only [List.setIfInBounds_toArray, List.set_cons_zero, List.set_cons_succ] at isR
    have HBN : Hid (Bx w6 ((((((((vb).setCell ⟨(wdr).heap.size, 0, none⟩ (.slice K2.A1 K2.own.length K2.c1)).setCell ⟨(wdr).heap.size, 1, none⟩ (.slice K2.A2 K2.rts.length K2.c2)).setCell ⟨(wdr).heap.size, 2, none⟩ (.slice K2.A3 K2.pts.length K2.c3)).setCell ⟨(wdr).heap.size, 3, none⟩ (.slice K2.A4 K2.crs.length K2.c4)).setCell ⟨(wdr).heap.size, 4, none⟩ (.slice K2.A5 K2.lns.length K2.c5)).setCell ⟨(wdr).heap.size, 5, none⟩ (.slice K2.A6 K2.rss.length K2.c6)).setCell ⟨(wdr).heap.size, 6, none⟩ (.bool K2.dirty)) (wdr).heap.size K2) := Lib.hid ⟨isR, HO.out.fr fR fun k hk e => HO.out.ne_is isr (by decide) (by decide) (by decide) (by decide) (e ▸ hk), (((((((HG.out.setCell (p := ⟨(wdr).heap.size, 0, none⟩) (.inr HNB.out) (.slice K2.A1 K2.own.length K2.c1)).setCell (p := ⟨(wdr).heap.size, 1, none⟩) (.inr HNB.out) (.slice K2.A2 K2.rts.length K2.c2)).setCell (p := ⟨(wdr).heap.size, 2, none⟩) (.inr HNB.out) (.slice K2.A3 K2.pts.length K2.c3)).setCell (p := ⟨(wdr).heap.size, 3, none⟩) (.inr HNB.out) (.slice K2.A4 K2.crs.length K2.c4)).setCell (p := ⟨(wdr).heap.size, 4, none⟩) (.inr HNB.out) (.slice K2.A5 K2.lns.length K2.c5)).setCell (p := ⟨(wdr).heap.size, 5, none⟩) (.inr HNB.out) (.slice K2.A6 K2.rss.length K2.c6)).setCell (p := ⟨(wdr).heap.size, 6, none⟩) (.inr HNB.out) (.bool K2.dirty)), HNB.out⟩
    clear isR fR isr
    (with_reducible refine hKK.out _ _ (HS.out _ HBN.out.f) (fun hHeld => ?_))
    clear hKK KK m0 m1 m2 m3 m4 m5 m6 z0 z1 z2 z3 z4 z5 z6
    refine wpAnyH_take (i := 8) (oi := { dst := some 5, op := _, type := _, pos := _, after := _, guard := _ }) (v := ?_) rfl (by kernel_rfl) (by kernel_rfl) (by kernel_rfl) (fun _ _ _ h => h) (Or.inl ⟨by rfl, ?_⟩) (by assumption) ?_
    rotate_left
    ·intro Wx hSw
     try dsimp only at hSw
     go_simp
     try with_reducible rfl
    try simp only [Act.put, List.setIfInBounds_toArray, List.set_cons_zero, List.set_cons_succ]
    refine wpAnyH_done (by kernel_rfl) ?_ _
    go_wp2_with fail
    go_meet
    case rel => exact ⟨_, K2, rfl, rfl, HK2.out, HBN.out⟩
  case rest =>
   obtain ⟨nb, K2, rfl, rfl, hk2, hb2⟩ := hcut
   have HB2 := Lib.hid hb2
   have e1 : K2.own = [-1, 1, 1, -1, -1] := (congrArg Kp.own hk2).trans sm_own3
   have e2 : K2.rts = [⟨1, 0, 0, 0⟩, ⟨0, 0, 0, 0⟩] := (congrArg Kp.rts hk2).trans sm_rts3
   have e3 : K2.pts = [⟨0, 0⟩, ⟨1, 5⟩, ⟨0, 0⟩, ⟨0, 0⟩, ⟨0, 0⟩] := (congrArg Kp.pts hk2).trans sm_pts3
   obtain ⟨g1, o1, a1, p1⟩ := rd_int (wide_rd hb2.own.own) (j := 1) (by rw [e1]; decide)
   obtain ⟨g2, o2, a2, r0, -, -, -⟩ := rd_rs (wide_rd hb2.own.rts) (j := 0) (by rw [e2]; decide)
   obtain ⟨g3, o3, a3, s0, s1⟩ := rd_mo (wide_rd hb2.own.pts) (j := 1) (by rw [e3]; decide)
   have c0 := hb2.is.cell 0
   have c1 := hb2.is.cell 1
   have c2 := hb2.is.cell 2
   simp only [Km.arr, a1, a2, a3, List.getElem?_toArray, List.getElem?_cons_succ, List.getElem?_cons_zero] at c0 c1 c2
   simp only [e1, e2, e3, List.length_cons, List.length_nil, List.getElem_cons_succ, List.getElem_cons_zero] at c0 c1 c2 p1 r0 s0 s1
   simp only [Nat.zero_mul, Nat.one_mul, Nat.add_zero, Nat.zero_add, Nat.reduceAdd] at c0 c1 c2 p1 r0 s0 s1
   clear hk2 hb2 e1 e2 e3 a1 a2 a3
   go_wp2_with fail
   go_ret
   exact ⟨rfl, fr_nil HF.out (fr_nil HF6.out HB2.out.f)⟩
end Go.Proofs.YtginfnbdnkgjbaaGreat.Lk

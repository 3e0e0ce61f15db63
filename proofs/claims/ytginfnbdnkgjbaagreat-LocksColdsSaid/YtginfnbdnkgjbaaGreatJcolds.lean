import Derived.Test.YtginfnbdnkgjbaaGreatJtwo
import Derived.Test.YtginfnbdnkgjbaaGreatJone
import Derived.Test.YtginfnbdnkgjbaaGreatKz
import Derived.Test.YtginfnbdnkgjbaaGreatKx
import Derived.Test.YtginfnbdnkgjbaaGreatLtob
import Derived.Test.YtginfnbdnkgjbaaGreatKa
import Derived.Test.YtginfnbdnkgjbaaGreatLfacts
import Derived.SizedLaws
/- The walk of LocksColds: at the first start nothing can be locked and no point thrown. -/
namespace Go.Proofs.YtginfnbdnkgjbaaGreat.Lk
open Go.RowKit

theorem right_small {c : Cf} (h : checkE c = 0) : c.secs.length ≤ 24 ∧ c.crs.length ≤ 4 ∧ c.rts.length ≤ 12 := by
  obtain ⟨h1, -, h3, h4, -, -⟩ := check_parts h
  unfold checkB at h1
  rw [Bool.and_eq_true] at h1
  rw [Bool.and_eq_true, decide_eq_true_eq] at h3
  have := (sizes_short h1.1).2.1
  exact ⟨by omega, h3.1, h4⟩
/-- a state that fits can be read, wherever it lies -/
theorem fit_ok {B : Nat} {w : World} {K : Km} {c : Cf} (ho : K.Own B w) (h : FitP c K.kp) : K.Ok w := by
  obtain ⟨a, b, d⟩ := right_small h.chk
  have l1 : K.own.length = c.secs.length := h.l1
  have l2 : K.rts.length = c.rts.length := h.l2
  have l3 : K.pts.length = c.secs.length := h.l3
  have l4 : K.crs.length = c.crs.length := h.l4
  have l5 : K.lns.length = 4 := h.l5
  have l6 : K.rss.length = c.secs.length := h.l6
  exact ho.ok (by omega) (by omega) (by omega) (by omega) (by omega) (by omega)
theorem gate_fit {c : Cf} {k : Kp} (h : FitP c k) (x : Kp × Int) : gateM c k true x = x := by
  unfold gateM
  rw [fits_iff.2 h, if_neg (by decide), if_neg (by decide)]
set_option maxRecDepth 100000 in
set_option maxHeartbeats 8000000 in
theorem colds_walk {C : Cm} {w : World} (hC : C.Ok w) (r s : Int) :
    Calls Tryz.prog 9 #[C.val, .int .i64 r, .int .i64 s] w fun e w' => e = .returned (.bool true) ∧ Fr (fun _ => False) w w' := by
  have HC := Lib.hid hC
  have HF := Lib.hid ((Fr.refl (fun _ => False) w).alloc (.cells C.arr 30))
  have HI := Lib.hid (Is.new w 30 C.arr)
  have KC := fun W (f : Fr (fun _ => False) w W) => rck_any C W (hC.fr f)
  have KN := fun W (f : Fr (fun _ => False) w W) hcr => new_any W (hC.fr f) hcr 3
  clear hC
  unfold Cm.val Cm.arr at *
  go_enter Tryz.func9, Tryz.ntmps9
  go_wp2_with fail
  generalize w.alloc _ = w0 at *
  refine (lives13_any _).mono ?_
  rintro _ w1 ⟨rfl, f1⟩
  have HF := Lib.hid (fr_nil HF.out f1)
  have HI := Lib.hid (HI.out.fr f1 id)
  clear f1
  generalize hcb : w.heap.size = cb at HI ⊢
  have HCB := Lib.hid hcb
  clear hcb
  obtain ⟨p0, p1, p2, p3, p4, p5, p6, p7, p8⟩ := conf_cells0 HI.out
  go_wp2_with fail
  refine (KC _ HF.out).mono ?_
  rintro _ w2 ⟨rfl, f2⟩
  have HF := Lib.hid (fr_nil HF.out f2)
  have HI := Lib.hid (HI.out.fr f2 id)
  clear f2 KC p0 p1 p2 p3 p4 p5 p6 p7 p8
  by_cases hck : checkE C.cf = 0
  rotate_left
  · have d1 : (checkE C.cf == 0) = false := by simpa using hck
    have d2 : (checkE C.cf != 0) = true := by simpa using hck
    go_wp2_with fail
    go_ret
    exact ⟨rfl, HF.out⟩
  rw [hck]
  have hs0 : 0 < C.l.length := secs_some hck
  have hsm : C.l.length ≤ 24 ∧ C.cr.length ≤ 4 := ⟨(right_small hck).1, (right_small hck).2.1⟩
  have HCK := Lib.hid hck
  obtain ⟨j, hj, hjl⟩ := umod s C.l.length hs0 (by omega)
  have KN := KN w2 HF.out (by omega)
  clear hck
  obtain ⟨p0, p1, p2, p3, p4, p5, p6, p7, p8⟩ := conf_cells0 HI.out
  have i9 : (0 : Int) < (C.l.length : Int) := by omega
  have i10 : (C.l.length : Int) ≤ 24 := by omega
  have HS0 := Lib.hid hs0
  have HSM := Lib.hid hsm
  clear hs0 hsm
  go_upto_region 6 with fail
  simp only [hj]
  clear hj i10
  have HJL := Lib.hid hjl
  have j0 : (0 : Int) ≤ (j : Int) := by omega
  have j1 : (j : Int) < (C.l.length : Int) := by omega
  clear hjl
  go_wp2_with fail
  refine KN.mono ?_
  rintro _ w3 ⟨K, rfl, hk, ho, f3⟩
  have HKP := Lib.hid hk
  have HFIT : Hid (FitP C.cf K.kp) := Lib.hid (by rw [hk]; exact new_fit HCK.out (by decide))
  have HBX := Lib.hid (bx_made ho f3)
  clear hk ho f3 KN p0 p1 p2 p3 p4 p5 p6 p7 p8
  unfold Km.val Km.arr
  go_upto_region 7 with fail
  generalize hw4 : World.alloc _ _ = w4 at *
  generalize w3.heap.size = kb at *
  clear hw4
  have HF := Lib.hid (fr_nil HF.out HBX.out.f)
  have HI := Lib.hid (HI.out.fr HBX.out.f id)
  have HKO : Hid (K.Ok w4) := Lib.hid (fit_ok HBX.out.own HFIT.out)
  have HT : Hid (gateM C.cf K.kp (tmB 4) (throwM C.cf K.kp 4 j 2) = (K.kp, if kindOf C.l j = 1 then 22 else 20)) := Lib.hid (by
    rw [show tmB 4 = true from rfl, gate_fit HFIT.out, HKP.out]
    exact cold_throw 4 2 HJL.out (.inr rfl))
  have HR5 : Hid (gateM C.cf K.kp (tmB 4) (resetM C.cf K.kp 4 j) = ({ newM C.cf 3 with rss := (newM C.cf 3).rss.set j 5 }, 0)) := Lib.hid (by
    rw [show tmB 4 = true from rfl, gate_fit HFIT.out, HKP.out]
    exact cold_reset 4 HJL.out)
  have KT := fun W (f : Fr (fun _ => False) w W) (g : Fr (fun _ => False) w4 W) => call_Throw_any C K W (HC.out.fr f) (HKO.out.fr g) 4 j 2
  have KR := fun W (f : Fr (fun _ => False) w W) (g : Fr (fun _ => False) w4 W) => call_Reset_any C K W (HC.out.fr f) (HKO.out.fr g) 4 j
  have HG := Lib.hid (Fr.refl (fun _ => False) w4)
  unfold Cm.val Cm.arr Km.val Km.arr at KT KR
  obtain ⟨p0, p1, p2, p3, p4, p5, p6, p7, p8⟩ := conf_cells0 HI.out
  by_cases hr : C.rs.length = 0
  · have hd : decide ((0 : Int) < (C.rs.length : Int)) = false := decide_eq_false (by omega)
    have hd2 : decide (0 < C.rs.length) = false := decide_eq_false (by omega)
    have hd3 : ¬ 0 < C.rs.length := by omega
    have HR := Lib.hid hr
    clear hr
    obtain ⟨k0, k1, k2, k3, k4, k5, k6⟩ := core_cells (K := K) HBX.out.is
    go_upto_region 12 with fail
    generalize hw5 : w4 = w5 at *
    clear hw5 hd hd2 hd3 p0 p1 p2 p3 p4 p5 p6 p7 p8 k0 k1 k2 k3 k4 k5 k6
    obtain ⟨p0, p1, p2, p3, p4, p5, p6, p7, p8⟩ := conf_cells0 HI.out
    obtain ⟨k0, k1, k2, k3, k4, k5, k6⟩ := core_cells (K := K) HBX.out.is
    go_wp2_with fail
    refine (KT _ HF.out HG.out).mono ?_
    rintro _ wt ⟨K3, rfl, hk3, ho3, f3⟩
    rw [HT.out]
    have FA := f3.alloc (.cells #[.slice K3.A1 K3.own.length K3.c1, .slice K3.A2 K3.rts.length K3.c2, .slice K3.A3 K3.pts.length K3.c3, .slice K3.A4 K3.crs.length K3.c4, .slice K3.A5 K3.lns.length K3.c5, .slice K3.A6 K3.rss.length K3.c6, .bool K3.dirty] 35)
    have HF := Lib.hid (fr_nil HF.out FA)
    have HG := Lib.hid (fr_nil HG.out FA)
    have HI := Lib.hid (HI.out.fr FA id)
    have HBX := Lib.hid (HBX.out.fr FA)
    clear p0 p1 p2 p3 p4 p5 p6 p7 p8 k0 k1 k2 k3 k4 k5 k6 KT hk3 ho3 f3 FA
    unfold Km.val Km.arr
    dsimp only
    generalize hv : (if kindOf C.l j = 1 then (22 : Int) else 20) = ev
    have HV := Lib.hid hv
    clear hv
    go_upto_region 13 with fail
    generalize hw7 : World.alloc _ _ = w7 at *
    clear hw7
    obtain ⟨g, o, hA, q0, q1, q2⟩ := rd_sec (HC.out.fr HF.out).secs HJL.out
    obtain ⟨p0, p1, p2, p3, p4, p5, p6, p7, p8⟩ := conf_cells0 HI.out
    obtain ⟨k0, k1, k2, k3, k4, k5, k6⟩ := core_cells (K := K) HBX.out.is
    have HE : Hid (ev = if (C.l[j]'HJL.out).kind = 1 then 22 else 20) := Lib.hid (by rw [← HV.out, kindOf_at HJL.out])
    have KR := KR _ HF.out HG.out
    rw [hA] at p0 KR
    clear hA
    generalize C.l[j]'HJL.out = x at *
    have hx : (x.kind = 1 ∧ ev = 22) ∨ (((x.kind == 1) = false) ∧ ev = 20) := by
      have h := HE.out
      by_cases hk : x.kind = 1
      · rw [if_pos hk] at h; exact .inl ⟨hk, h⟩
      · rw [if_neg hk] at h; exact .inr ⟨by simpa using hk, h⟩
    clear HE HV
    rcases hx with ⟨hk, rfl⟩ | ⟨hk, rfl⟩
    · rw [hk] at q0
      clear hk
      go_wp2_with fail
      refine KR.mono ?_
      rintro _ wz ⟨K4, rfl, hk4, ho4, f4⟩
      rw [HR5.out] at hk4 ⊢
      have HZ := Lib.hid (f4.alloc (.cells #[.slice K4.A1 K4.own.length K4.c1, .slice K4.A2 K4.rts.length K4.c2, .slice K4.A3 K4.pts.length K4.c3, .slice K4.A4 K4.crs.length K4.c4, .slice K4.A5 K4.lns.length K4.c5, .slice K4.A6 K4.rss.length K4.c6, .bool K4.dirty] 35))
      have HB4 := Lib.hid (bx_made ho4 f4)
      have e1 : K4.own = C.l.map fun _ => -1 := congrArg Kp.own hk4
      have e6 : K4.rss = (C.l.map fun _ => 0).set j 5 := congrArg Kp.rss hk4
      have hl1 : j < K4.own.length := by rw [e1, List.length_map]; exact HJL.out
      have hl6 : j < K4.rss.length := by rw [e6, List.length_set, List.length_map]; exact HJL.out
      have v1 : K4.own[j] = -1 := by simp [e1]
      have v6 : K4.rss[j] = 5 := by simp [e6]
      have HL1 := Lib.hid hl1
      have HL6 := Lib.hid hl6
      have HV1 := Lib.hid v1
      have HV6 := Lib.hid v6
      clear hk4 ho4 f4 e1 e6 v1 v6 KR p0 p1 p2 p3 p4 p5 p6 p7 p8 k0 k1 k2 k3 k4 k5 k6 q0 q1 q2
      unfold Km.val Km.arr
      dsimp only
      go_upto_region 16 with fail
      generalize hw8 : World.alloc _ _ = w8 at *
      generalize wz.heap.size = zb at *
      clear hw8
      obtain ⟨g1, o1, a1, b1⟩ := rd_int (wide_rd HB4.out.own.own) HL1.out
      obtain ⟨g6, o6, a6, b6⟩ := rd_int (wide_rd HB4.out.own.rss) HL6.out
      rw [HV1.out] at b1
      rw [HV6.out] at b6
      have c0 := HB4.out.is.cell 0
      have c5 := HB4.out.is.cell 5
      simp only [Km.arr, a1, a6, List.getElem?_toArray, List.getElem?_cons_succ, List.getElem?_cons_zero] at c0 c5
      have t0 : (0 : Int) ≤ (j : Int) := by omega
      have t1 : (j : Int) < (K4.own.length : Int) := by have := HL1.out; omega
      have t6 : (j : Int) < (K4.rss.length : Int) := by have := HL6.out; omega
      clear a1 a6
      go_wp2_with fail
      go_ret
      exact ⟨rfl, fr_nil HF.out HZ.out⟩
    · go_wp2_with fail
      refine KR.mono ?_
      rintro _ wz ⟨K4, rfl, hk4, ho4, f4⟩
      rw [HR5.out] at hk4 ⊢
      have HZ := Lib.hid (f4.alloc (.cells #[.slice K4.A1 K4.own.length K4.c1, .slice K4.A2 K4.rts.length K4.c2, .slice K4.A3 K4.pts.length K4.c3, .slice K4.A4 K4.crs.length K4.c4, .slice K4.A5 K4.lns.length K4.c5, .slice K4.A6 K4.rss.length K4.c6, .bool K4.dirty] 35))
      have HB4 := Lib.hid (bx_made ho4 f4)
      have e1 : K4.own = C.l.map fun _ => -1 := congrArg Kp.own hk4
      have e6 : K4.rss = (C.l.map fun _ => 0).set j 5 := congrArg Kp.rss hk4
      have hl1 : j < K4.own.length := by rw [e1, List.length_map]; exact HJL.out
      have hl6 : j < K4.rss.length := by rw [e6, List.length_set, List.length_map]; exact HJL.out
      have v1 : K4.own[j] = -1 := by simp [e1]
      have v6 : K4.rss[j] = 5 := by simp [e6]
      have HL1 := Lib.hid hl1
      have HL6 := Lib.hid hl6
      have HV1 := Lib.hid v1
      have HV6 := Lib.hid v6
      clear hk4 ho4 f4 e1 e6 v1 v6 KR p0 p1 p2 p3 p4 p5 p6 p7 p8 k0 k1 k2 k3 k4 k5 k6 q0 q1 q2
      unfold Km.val Km.arr
      dsimp only
      go_upto_region 16 with fail
      generalize hw8 : World.alloc _ _ = w8 at *
      generalize wz.heap.size = zb at *
      clear hw8
      obtain ⟨g1, o1, a1, b1⟩ := rd_int (wide_rd HB4.out.own.own) HL1.out
      obtain ⟨g6, o6, a6, b6⟩ := rd_int (wide_rd HB4.out.own.rss) HL6.out
      rw [HV1.out] at b1
      rw [HV6.out] at b6
      have c0 := HB4.out.is.cell 0
      have c5 := HB4.out.is.cell 5
      simp only [Km.arr, a1, a6, List.getElem?_toArray, List.getElem?_cons_succ, List.getElem?_cons_zero] at c0 c5
      have t0 : (0 : Int) ≤ (j : Int) := by omega
      have t1 : (j : Int) < (K4.own.length : Int) := by have := HL1.out; omega
      have t6 : (j : Int) < (K4.rss.length : Int) := by have := HL6.out; omega
      clear a1 a6
      go_wp2_with fail
      go_ret
      exact ⟨rfl, fr_nil HF.out HZ.out⟩
  · have hr0 : 0 < C.rs.length := by omega
    have hr9 : C.rs.length ≤ 12 := by have h := (right_small HCK.out).2.2; unfold Cm.cf at h; simpa using h
    obtain ⟨i, hi, hil⟩ := umod r C.rs.length hr0 (by omega)
    have hd : decide ((0 : Int) < (C.rs.length : Int)) = true := decide_eq_true (by omega)
    have i8 : (0 : Int) < (C.rs.length : Int) := by omega
    have i11 : (C.rs.length : Int) ≤ 12 := by omega
    have HIL := Lib.hid hil
    have HQ : Hid (gateM C.cf K.kp (tmB 4) (reqM C.cf K.kp 4 i) = (K.kp, 22)) := Lib.hid (by
      rw [show tmB 4 = true from rfl, gate_fit HFIT.out, HKP.out]
      exact cold_req HCK.out 4 (by unfold Cm.cf; simpa using HIL.out))
    have KQ := call_Request_fit C K w4 (HC.out.fr HF.out) HKO.out 4 i
    unfold Cm.val Cm.arr Km.val Km.arr at KQ
    clear hr hr0 hr9 hil
    go_upto_region 9 with fail
    simp only [hi]
    clear hi i8 i11 hd
    obtain ⟨k0, k1, k2, k3, k4, k5, k6⟩ := core_cells (K := K) HBX.out.is
    go_wp2_with fail
    refine KQ.mono ?_
    rintro _ wq ⟨K2, rfl, hk2, ho2, f2⟩
    have HK2 : Hid (K2.kp = K.kp) := Lib.hid (hk2.trans (by rw [HQ.out]))
    rw [HQ.out]
    have HB2 := Lib.hid (bx_made ho2 f2)
    clear hk2 ho2 f2 KQ p0 p1 p2 p3 p4 p5 p6 p7 p8 k0 k1 k2 k3 k4 k5 k6
    unfold Km.val Km.arr
    go_upto_region 10 with fail
    generalize hw6 : World.alloc _ _ = w6 at *
    generalize wq.heap.size = nb at *
    clear hw6
    have KS := same_any K2 K w6 (fit_ok HB2.out.own (by rw [HK2.out]; exact HFIT.out)) (HKO.out.fr HB2.out.f) HK2.out
    unfold Km.val Km.arr at KS
    obtain ⟨k0, k1, k2, k3, k4, k5, k6⟩ := core_cells (K := K) (HBX.out.is.fr HB2.out.f id)
    obtain ⟨m0, m1, m2, m3, m4, m5, m6⟩ := core_cells (K := K2) HB2.out.is
    go_wp2_with fail
    refine KS.mono ?_
    rintro _ w5 ⟨rfl, f5⟩
    have HG := Lib.hid (fr_nil HB2.out.f f5)
    clear KS k0 k1 k2 k3 k4 k5 k6 m0 m1 m2 m3 m4 m5 m6 f5
    have HF := Lib.hid (fr_nil HF.out HG.out)
    have HI := Lib.hid (HI.out.fr HG.out id)
    have HBX := Lib.hid (HBX.out.fr HG.out)
    go_upto_region 12 with fail
    obtain ⟨p0, p1, p2, p3, p4, p5, p6, p7, p8⟩ := conf_cells0 HI.out
    obtain ⟨k0, k1, k2, k3, k4, k5, k6⟩ := core_cells (K := K) HBX.out.is
    go_wp2_with fail
    refine (KT _ HF.out HG.out).mono ?_
    rintro _ wt ⟨K3, rfl, hk3, ho3, f3⟩
    rw [HT.out]
    have FA := f3.alloc (.cells #[.slice K3.A1 K3.own.length K3.c1, .slice K3.A2 K3.rts.length K3.c2, .slice K3.A3 K3.pts.length K3.c3, .slice K3.A4 K3.crs.length K3.c4, .slice K3.A5 K3.lns.length K3.c5, .slice K3.A6 K3.rss.length K3.c6, .bool K3.dirty] 35)
    have HF := Lib.hid (fr_nil HF.out FA)
    have HG := Lib.hid (fr_nil HG.out FA)
    have HI := Lib.hid (HI.out.fr FA id)
    have HBX := Lib.hid (HBX.out.fr FA)
    clear p0 p1 p2 p3 p4 p5 p6 p7 p8 k0 k1 k2 k3 k4 k5 k6 KT hk3 ho3 f3 FA
    unfold Km.val Km.arr
    dsimp only
    generalize hv : (if kindOf C.l j = 1 then (22 : Int) else 20) = ev
    have HV := Lib.hid hv
    clear hv
    go_upto_region 13 with fail
    generalize hw7 : World.alloc _ _ = w7 at *
    clear hw7
    obtain ⟨g, o, hA, q0, q1, q2⟩ := rd_sec (HC.out.fr HF.out).secs HJL.out
    obtain ⟨p0, p1, p2, p3, p4, p5, p6, p7, p8⟩ := conf_cells0 HI.out
    obtain ⟨k0, k1, k2, k3, k4, k5, k6⟩ := core_cells (K := K) HBX.out.is
    have HE : Hid (ev = if (C.l[j]'HJL.out).kind = 1 then 22 else 20) := Lib.hid (by rw [← HV.out, kindOf_at HJL.out])
    have KR := KR _ HF.out HG.out
    rw [hA] at p0 KR
    clear hA
    generalize C.l[j]'HJL.out = x at *
    have hx : (x.kind = 1 ∧ ev = 22) ∨ (((x.kind == 1) = false) ∧ ev = 20) := by
      have h := HE.out
      by_cases hk : x.kind = 1
      · rw [if_pos hk] at h; exact .inl ⟨hk, h⟩
      · rw [if_neg hk] at h; exact .inr ⟨by simpa using hk, h⟩
    clear HE HV
    rcases hx with ⟨hk, rfl⟩ | ⟨hk, rfl⟩
    · rw [hk] at q0
      clear hk
      go_wp2_with fail
      refine KR.mono ?_
      rintro _ wz ⟨K4, rfl, hk4, ho4, f4⟩
      rw [HR5.out] at hk4 ⊢
      have HZ := Lib.hid (f4.alloc (.cells #[.slice K4.A1 K4.own.length K4.c1, .slice K4.A2 K4.rts.length K4.c2, .slice K4.A3 K4.pts.length K4.c3, .slice K4.A4 K4.crs.length K4.c4, .slice K4.A5 K4.lns.length K4.c5, .slice K4.A6 K4.rss.length K4.c6, .bool K4.dirty] 35))
      have HB4 := Lib.hid (bx_made ho4 f4)
      have e1 : K4.own = C.l.map fun _ => -1 := congrArg Kp.own hk4
      have e6 : K4.rss = (C.l.map fun _ => 0).set j 5 := congrArg Kp.rss hk4
      have hl1 : j < K4.own.length := by rw [e1, List.length_map]; exact HJL.out
      have hl6 : j < K4.rss.length := by rw [e6, List.length_set, List.length_map]; exact HJL.out
      have v1 : K4.own[j] = -1 := by simp [e1]
      have v6 : K4.rss[j] = 5 := by simp [e6]
      have HL1 := Lib.hid hl1
      have HL6 := Lib.hid hl6
      have HV1 := Lib.hid v1
      have HV6 := Lib.hid v6
      clear hk4 ho4 f4 e1 e6 v1 v6 KR p0 p1 p2 p3 p4 p5 p6 p7 p8 k0 k1 k2 k3 k4 k5 k6 q0 q1 q2
      unfold Km.val Km.arr
      dsimp only
      go_upto_region 16 with fail
      generalize hw8 : World.alloc _ _ = w8 at *
      generalize wz.heap.size = zb at *
      clear hw8
      obtain ⟨g1, o1, a1, b1⟩ := rd_int (wide_rd HB4.out.own.own) HL1.out
      obtain ⟨g6, o6, a6, b6⟩ := rd_int (wide_rd HB4.out.own.rss) HL6.out
      rw [HV1.out] at b1
      rw [HV6.out] at b6
      have c0 := HB4.out.is.cell 0
      have c5 := HB4.out.is.cell 5
      simp only [Km.arr, a1, a6, List.getElem?_toArray, List.getElem?_cons_succ, List.getElem?_cons_zero] at c0 c5
      have t0 : (0 : Int) ≤ (j : Int) := by omega
      have t1 : (j : Int) < (K4.own.length : Int) := by have := HL1.out; omega
      have t6 : (j : Int) < (K4.rss.length : Int) := by have := HL6.out; omega
      clear a1 a6
      go_wp2_with fail
      go_ret
      exact ⟨rfl, fr_nil HF.out HZ.out⟩
    · go_wp2_with fail
      refine KR.mono ?_
      rintro _ wz ⟨K4, rfl, hk4, ho4, f4⟩
      rw [HR5.out] at hk4 ⊢
      have HZ := Lib.hid (f4.alloc (.cells #[.slice K4.A1 K4.own.length K4.c1, .slice K4.A2 K4.rts.length K4.c2, .slice K4.A3 K4.pts.length K4.c3, .slice K4.A4 K4.crs.length K4.c4, .slice K4.A5 K4.lns.length K4.c5, .slice K4.A6 K4.rss.length K4.c6, .bool K4.dirty] 35))
      have HB4 := Lib.hid (bx_made ho4 f4)
      have e1 : K4.own = C.l.map fun _ => -1 := congrArg Kp.own hk4
      have e6 : K4.rss = (C.l.map fun _ => 0).set j 5 := congrArg Kp.rss hk4
      have hl1 : j < K4.own.length := by rw [e1, List.length_map]; exact HJL.out
      have hl6 : j < K4.rss.length := by rw [e6, List.length_set, List.length_map]; exact HJL.out
      have v1 : K4.own[j] = -1 := by simp [e1]
      have v6 : K4.rss[j] = 5 := by simp [e6]
      have HL1 := Lib.hid hl1
      have HL6 := Lib.hid hl6
      have HV1 := Lib.hid v1
      have HV6 := Lib.hid v6
      clear hk4 ho4 f4 e1 e6 v1 v6 KR p0 p1 p2 p3 p4 p5 p6 p7 p8 k0 k1 k2 k3 k4 k5 k6 q0 q1 q2
      unfold Km.val Km.arr
      dsimp only
      go_upto_region 16 with fail
      generalize hw8 : World.alloc _ _ = w8 at *
      generalize wz.heap.size = zb at *
      clear hw8
      obtain ⟨g1, o1, a1, b1⟩ := rd_int (wide_rd HB4.out.own.own) HL1.out
      obtain ⟨g6, o6, a6, b6⟩ := rd_int (wide_rd HB4.out.own.rss) HL6.out
      rw [HV1.out] at b1
      rw [HV6.out] at b6
      have c0 := HB4.out.is.cell 0
      have c5 := HB4.out.is.cell 5
      simp only [Km.arr, a1, a6, List.getElem?_toArray, List.getElem?_cons_succ, List.getElem?_cons_zero] at c0 c5
      have t0 : (0 : Int) ≤ (j : Int) := by omega
      have t1 : (j : Int) < (K4.own.length : Int) := by have := HL1.out; omega
      have t6 : (j : Int) < (K4.rss.length : Int) := by have := HL6.out; omega
      clear a1 a6
      go_wp2_with fail
      go_ret
      exact ⟨rfl, fr_nil HF.out HZ.out⟩
end Go.Proofs.YtginfnbdnkgjbaaGreat.Lk
/- LocksColds (P13.1): at the first start nothing can be locked and no point thrown; a reset is taken for each section, and gives nothing free by itself. For every configuration and every two whole numbers; no condition. -/
namespace Go.Proofs.YtginfnbdnkgjbaaGreat.locksColds
open Go.ChangeShapes Go.WideShapes Go.ChangeAt Go.RowKit
open Go.ChangeMaps (open_string shut_string)

theorem q1 : (Rows.locksColdsRow.inPlace == Tryz.checked.prog.inPlace 9) = true := by kernel_rfl
theorem q2 : (Rows.locksColdsRow.unfollowed == Tryz.checked.prog.unfollowed 9) = true := by kernel_rfl
theorem q3 : (Rows.locksColdsRow.recurses == Tryz.checked.prog.recurses 9) = true := by kernel_rfl
theorem q4 : (Rows.locksColdsRow.named == Tryz.checked.prog.varsNamed 9) = true := by kernel_rfl
theorem closed : joinedFacts Tryz.checked.prog 9 Tryz.f9 Rows.locksColdsSpec Rows.locksColdsRow = true := by
  unfold joinedFacts
  simp only [Bool.and_eq_true]
  and_intros
  · kernel_rfl
  · exact Lk.pf1
  · exact Lk.pf2
  · kernel_rfl
  · kernel_rfl
  · kernel_rfl
  · kernel_rfl
  · kernel_rfl
  · kernel_rfl
  · exact q1
  · exact q2
  · exact q3
  · exact q4
  · kernel_rfl
  · kernel_rfl
  · kernel_rfl
  · kernel_rfl
  · kernel_rfl
  · kernel_rfl
  · kernel_rfl
  · kernel_rfl
  · kernel_rfl
  · kernel_rfl
  · kernel_rfl
  · exact Lk.pf3
  · exact Lk.pf4
  · exact Lk.pf5
  · kernel_rfl
  · kernel_rfl
  · kernel_rfl
  · kernel_rfl
  · kernel_rfl

set_option maxRecDepth 100000 in
theorem lifted (os : Os) (started : os.Started) (H : Type) (enc : TypeId × Value → H) :
    ReturnsInHanded {} Tryz.checked os 9 .any (Rows.locksColdsSpec.pre6 enc Tryz.prog Tryz.f9 Rows.locksColdsRow.domain false) (Rows.locksColdsSpec.post enc Tryz.prog Tryz.f9 false true false false) := by
  refine returnsInHanded_of_change_sized (C := Tryz.checked) Tryz.own started (by kernel_rfl) Tryz.func9
    (ChangeSpec.witness6 (enc := enc) (C := Tryz.checked) false ⟨#[], #[.agg #[.slice none 0 0, .slice none 0 0, .slice none 0 0, .slice none 0 0, .slice none 0 0, .int .i64 0, .int .i64 0, .int .i64 0, .int .i64 0], .int .i64 0, .int .i64 0], []⟩ 8 (by kernel_rfl) (by kernel_rfl) (by kernel_rfl) (by kernel_rfl)) ?_
  intro W base args ds gs before hval0 hW hcnd0 hsz0 _
  have hval : ∀ (j : Nat) t v, Tryz.f9.params[j]? = some t → args[j]? = some v → Value.okWide Tryz.prog W .any base t v := hval0
  have hW' := hW
  obtain ⟨p, q, hA0, hV, rfl, hfz, hnd⟩ := hW
  have hA : DataW.TrodAll enc Tryz.prog W 0 (fun _ => true) true Tryz.f9.params.toList args.toList ds p := hA0
  have hsz : (DataW.weightsEach Tryz.prog (Tryz.f9.params.toList ++ Rows.locksColdsSpec.plain.varTypes Tryz.prog) (ds ++ gs)).all (· ≤ reachBytes) = true := hsz0
  rw [Tryz.params9] at hA hval hsz
  obtain ⟨v0, v1, v2, d0, d1, d2, p0, p1, p2, rfl, rfl, rfl, h0, h1, h2⟩ := trodAll_three hA
  obtain ⟨rfl, rfl⟩ := trodVars_none hV
  obtain ⟨x0, rfl, i0⟩ := open_conf (hval 0 30 v0 rfl rfl) h0
  obtain ⟨a1, rfl, rfl, rfl, w1⟩ := open_int Tryz.underlying3 (hval 1 3 v1 rfl rfl) h1
  have b1 : -9223372036854775808 ≤ a1 ∧ a1 ≤ 9223372036854775807 := by
    simp only [Lit.wf, IntKind.min, IntKind.max, IntKind.signed, IntKind.bits, Bool.and_eq_true, decide_eq_true_eq, if_true] at w1
    have := w1.1
    have := w1.2
    omega
  obtain ⟨a2, rfl, rfl, rfl, w2⟩ := open_int Tryz.underlying3 (hval 2 3 v2 rfl rfl) h2
  have b2 : -9223372036854775808 ≤ a2 ∧ a2 ≤ 9223372036854775807 := by
    simp only [Lit.wf, IntKind.min, IntKind.max, IntKind.signed, IntKind.bits, Bool.and_eq_true, decide_eq_true_eq, if_true] at w2
    have := w2.1
    have := w2.2
    omega
  have z0 := conf_ok i0 hsz (j := 0) rfl rfl
  refine (Lk.toB (Lk.colds_walk z0 a1 a2)).mono fun e W' ⟨he, hb⟩ => ?_
  subst he
  exact law_post hW' rfl (by kernel_rfl) (by rw [Tryz.params9]; exact of_decide_eq_true (by kernel_rfl)) rfl rfl rfl hb

theorem proved : Rows.LocksColdsSaid :=
  OpenClaim.holds_of_wide 9 Tryz.f9 rfl rfl rfl rfl rfl rfl rfl ⟨rfl, rfl, rfl, rfl, rfl⟩ rfl rfl rfl rfl rfl (by kernel_rfl) Tryz.func9 closed
    (of_decide_eq_true (by kernel_rfl)) (by unfold Func.isWrapper; first | (rw [if_pos (by decide +kernel)]; kernel_rfl) | (rw [if_neg (by decide +kernel)]; exact ⟨rfl, rfl⟩))
    (fun os started H enc _ => lifted os started H enc)
end Go.Proofs.YtginfnbdnkgjbaaGreat.locksColds

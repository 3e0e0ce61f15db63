import Derived.Deep.RegionHeld3
import Derived.Deep.LoopGhost
import Derived.BigQuiet
import Derived.Deep.CutRange
import Derived.Test.YtginfnbdnkgjbaaGreatV6
import Derived.Test.YtginfnbdnkgjbaaGreatV4
import Derived.Test.YtginfnbdnkgjbaaGreatV5
import Derived.Test.YtginfnbdnkgjbaaGreatKx
import Derived.Test.YtginfnbdnkgjbaaGreatLtob
import Derived.Test.YtginfnbdnkgjbaaGreatKa
import Derived.Test.YtginfnbdnkgjbaaGreatLfacts
import Derived.SizedLaws
/- The walk of KernelFrees. -/
namespace Go.Proofs.YtginfnbdnkgjbaaGreat.Nk
open Go.RowKit Lk

/-- what the law asks of a section -/
structure FrS (c : Cf) (v : Vp) (now : Int) (k k1 : Kp) (s : Nat) (o : Int) : Prop where
  own : ownAt k1.own s = 0
  dirty : k1.dirty = true
  why : (o = -1 ∧ 0 < k.rss.getD s 0 ∧ (loAt v.occ s).ok = true ∧ (loAt v.occ s).val = 0 ∧ k.rss.getD s 0 ≤ (loAt v.occ s).stamp) ∨
    ∃ i : Nat, i < c.rts.length ∧ o = (i : Int) + 1 ∧ (rsAt k i).st = 4 ∧ (rsAt k i).since + c.tm.hold ≤ now ∧
      ((rsAt k1 i).st = 0 ∨ ∃ p : Nat, ((rsAt k i).nxt = (p : Int)) ∧ (∀ j (hj : j < (rtAt c i).path.length), ((rtAt c i).path[j]).sec = (s : Int) → j = p) ∧
        (loAt v.occ s).ok = true ∧ (loAt v.occ s).val = 0 ∧ (rsAt k i).since + c.tm.hold < (loAt v.occ s).stamp)
theorem clb_parts {occ : List Lo} {s t : Int} (h : clbB occ s t = true) : (loAt occ s).ok = true ∧ (loAt occ s).val = 0 ∧ t < (loAt occ s).stamp := by
  unfold clbB clrB at h
  simp only [Bool.and_eq_true, decide_eq_true_eq] at h
  exact ⟨h.1.1, h.1.2, h.2⟩
theorem cyc_pos {c : Cf} (h : checkE c = 0) (i : Int) : ∀ x ∈ pathL (rtAt c i), 0 ≤ x := fun x hx => by
  unfold rtAt pathL at hx
  rw [List.getD_eq_getElem?_getD] at hx
  by_cases hi : i.toNat < c.rts.length
  · rw [List.getElem?_eq_getElem hi] at hx
    obtain ⟨y, hy, rfl⟩ := List.mem_map.1 hx
    have := path_in h (List.getElem_mem hi) y hy
    unfold isSecB at this
    simp only [Bool.and_eq_true, decide_eq_true_eq] at this
    exact this.1
  · rw [List.getElem?_eq_none (by omega)] at hx
    cases hx
theorem frees_plain {c : Cf} {v : Vp} {now : Int} {k : Kp} (F : FitP c k) {s : Nat} (hs : s < k.own.length) (hne : ownAt (cycK c v now k).own s ≠ ownAt k.own s) : FrS c v now k (cycK c v now k) s (ownAt k.own s) := by
  have hp : ∀ i, ∀ x ∈ pathL (rtAt c i), 0 ≤ x := fun i x hx => cyc_pos F.chk i x hx
  obtain ⟨a, b, h⟩ := cycK_frees hp F.l2 hs hne
  refine ⟨a, b, ?_⟩
  rcases h with ⟨h1, h2, h3⟩ | ⟨i, hi, g⟩
  · rw [goAll_rss] at h2 h3
    obtain ⟨p1, p2, p3⟩ := clb_parts h3
    have hsl : s < k.rss.length := by rw [F.l6, ← F.l1]; exact hs
    have e : k.rss.getD s 0 = k.rss[s] := by rw [List.getD_eq_getElem?_getD, List.getElem?_eq_getElem hsl]; rfl
    have hb := F.rss _ (List.getElem_mem hsl)
    unfold inB at hb
    simp only [Bool.and_eq_true, decide_eq_true_eq] at hb
    rw [← e] at hb
    exact .inl ⟨h1, by omega, p1, p2, by omega⟩
  · refine .inr ⟨i, hi, g.was, g.st, g.since, ?_⟩
    rcases g.why with h | ⟨h1, h2, h3⟩
    · exact .inl h
    · obtain ⟨p1, p2, p3⟩ := clb_parts h3
      have hr := F.rt_at hi
      have hmem : rtAt c i ∈ c.rts := by rw [rt_mem hi]; exact List.getElem_mem hi
      rw [← rt_mem hi] at hr
      unfold rsB inB at hr
      simp only [Bool.and_eq_true, decide_eq_true_eq] at hr
      obtain ⟨n, hn⟩ := Int.eq_ofNat_of_zero_le hr.2.1.1
      have hnl : n < (rtAt c i).path.length := by omega
      refine .inr ⟨n, hn, fun j hj e => ?_, p1, p2, by omega⟩
      have hx : (rtAt c i).path[n].sec = (s : Int) := by
        unfold nxtSec pathL at h1
        rw [hn, Int.toNat_natCast, List.getD_eq_getElem?_getD, List.getElem?_map, List.getElem?_eq_getElem hnl] at h1
        exact h1
      exact path_inj F.chk hmem hj hnl (e.trans hx.symm)
/-! ### The walk -/
structure Tri (w : World) (cb : Nat) (C : Cm) (K : Km) (V : Vm) (now : Int) (rec : Bool) : Prop where
  c : Is w cb 30 C.arr
  k : Is w (cb + 1) 35 K.arr
  x : Is w (cb + 2) 85 #[.slice V.A1 V.occ.length V.c1, .slice V.A2 V.pos.length V.c2, .slice V.A3 V.shut.length V.c3, .slice V.A4 V.lamp.length V.c4, .int .i64 now, .bool rec]
theorem Tri.fr {w w1 : World} {cb : Nat} {C : Cm} {K : Km} {V : Vm} {now : Int} {rec : Bool} (h : Tri w cb C K V now rec) (f : Fr (fun _ => False) w w1) : Tri w1 cb C K V now rec := ⟨h.c.fr f id, h.k.fr f id, h.x.fr f id⟩
theorem tri_new (w : World) (C : Cm) (K : Km) (V : Vm) (now : Int) (rec : Bool) : Tri (((w.alloc (.cells C.arr 30)).alloc (.cells K.arr 35)).alloc (.cells #[.slice V.A1 V.occ.length V.c1, .slice V.A2 V.pos.length V.c2, .slice V.A3 V.shut.length V.c3, .slice V.A4 V.lamp.length V.c4, .int .i64 now, .bool rec] 85)) w.heap.size C K V now rec ∧ Fr (fun _ => False) w (((w.alloc (.cells C.arr 30)).alloc (.cells K.arr 35)).alloc (.cells #[.slice V.A1 V.occ.length V.c1, .slice V.A2 V.pos.length V.c2, .slice V.A3 V.shut.length V.c3, .slice V.A4 V.lamp.length V.c4, .int .i64 now, .bool rec] 85)) := by
  have i1 := Is.new w 30 C.arr
  have i2 := Is.new (w.alloc (.cells C.arr 30)) 35 K.arr
  have i3 := Is.new ((w.alloc (.cells C.arr 30)).alloc (.cells K.arr 35)) 85 #[.slice V.A1 V.occ.length V.c1, .slice V.A2 V.pos.length V.c2, .slice V.A3 V.shut.length V.c3, .slice V.A4 V.lamp.length V.c4, .int .i64 now, .bool rec]
  rw [show (w.alloc (.cells C.arr 30)).heap.size = w.heap.size + 1 by simp] at i2
  rw [show ((w.alloc (.cells C.arr 30)).alloc (.cells K.arr 35)).heap.size = w.heap.size + 2 by simp] at i3
  have r1 := (Fr.refl (fun _ => False) (w.alloc (.cells C.arr 30))).alloc (.cells K.arr 35)
  have r2 := (Fr.refl (fun _ => False) ((w.alloc (.cells C.arr 30)).alloc (.cells K.arr 35))).alloc (.cells #[.slice V.A1 V.occ.length V.c1, .slice V.A2 V.pos.length V.c2, .slice V.A3 V.shut.length V.c3, .slice V.A4 V.lamp.length V.c4, .int .i64 now, .bool rec] 85)
  exact ⟨⟨(i1.fr r1 id).fr r2 id, i2.fr r2 id, i3⟩, (((Fr.refl (fun _ => False) w).alloc _).trans r1 fun _ _ => id).trans r2 fun _ _ => id⟩
theorem six {w : World} {b : Nat} {v0 v1 v2 v3 v4 v5 : Value} {t : TypeId} (h : Is w b t #[v0, v1, v2, v3, v4, v5]) : w.cell? ⟨b, 0, none⟩ = some v0 ∧ w.cell? ⟨b, 1, none⟩ = some v1 ∧ w.cell? ⟨b, 2, none⟩ = some v2 ∧ w.cell? ⟨b, 3, none⟩ = some v3 ∧ w.cell? ⟨b, 4, none⟩ = some v4 ∧ w.cell? ⟨b, 5, none⟩ = some v5 :=
  ⟨h.cell 0, h.cell 1, h.cell 2, h.cell 3, h.cell 4, h.cell 5⟩
theorem own_at {l : List Int} {j : Nat} (hj : j < l.length) : ownAt l j = l[j] := by
  unfold ownAt
  rw [Int.toNat_natCast, List.getD_eq_getElem?_getD, List.getElem?_eq_getElem hj]; rfl
theorem rsk_at {k : Kp} {j : Nat} (hj : j < k.rts.length) : rsAt k j = k.rts[j] := by
  unfold rsAt
  rw [Int.toNat_natCast, List.getD_eq_getElem?_getD, List.getElem?_eq_getElem hj]; rfl
theorem step_cases (c : Cf) (v : Vp) (now : Int) (k : Kp) : (stepM c v now k).2.2 ≠ 0 ∨ (FitP c k ∧ seesB c v = true ∧ tmB now = true ∧ (stepM c v now k).1 = cycK c v now k ∧ (stepM c v now k).2.2 = 0) := by
  unfold stepM
  cases h1 : (fitsB c k && seesB c v)
  · rw [if_pos rfl]
    exact .inl (show (21 : Int) ≠ 0 by decide)
  · rw [if_neg (by decide)]
    cases h2 : tmB now
    · rw [if_pos rfl]
      exact .inl (show (32 : Int) ≠ 0 by decide)
    · rw [if_neg (by decide)]
      rw [Bool.and_eq_true] at h1
      exact .inr ⟨fits_iff.1 h1.1, h1.2, rfl, rfl, rfl⟩
set_option maxRecDepth 100000 in
set_option maxHeartbeats 16000000 in
theorem frees_walk {C : Cm} {K : Km} {V : Vm} {w : World} (hC : C.Ok w) (hK : K.Ok w) (hV : V.Ok w) (now : Int) (rec : Bool) :
    Calls Tryz.prog 12 #[C.val, K.val, cyArgs V now rec] w fun e w' => e = .returned (.bool true) ∧ Fr (fun _ => False) w w' := by
  have KS := fun (W : World) (f : Fr (fun _ => False) w W) => step_any (hC.fr f) (hK.fr f) (hV.fr f) now
  have HC := Lib.hid hC
  have HK := Lib.hid hK
  have HV := Lib.hid hV
  have hn := tri_new w C K V now rec
  have HT := Lib.hid hn.1
  have HF := Lib.hid hn.2
  clear hn hC hK hV
  unfold Cm.val Cm.arr Km.val Km.arr Vm.val Vm.arr at KS
  unfold cyArgs Cm.val Cm.arr Km.val Km.arr at *
  go_enter Tryz.func12, Tryz.ntmps12
  go_wp2_with fail
  generalize World.alloc _ _ = w0 at *
  generalize hcb : w.heap.size = cb at *
  clear hcb
  refine (lives14_any _).mono ?_
  rintro _ w1 ⟨rfl, f1⟩
  have HT := Lib.hid (HT.out.fr f1)
  have HF := Lib.hid (fr_nil HF.out f1)
  clear f1
  obtain ⟨p0, p1, p2, p3, p4, p5, p6, p7, p8⟩ := conf_cells0 HT.out.c
  obtain ⟨k0, k1, k2, k3, k4, k5, k6⟩ := core_cells (K := K) HT.out.k
  obtain ⟨x0, x1, x2, x3, x4, x5⟩ := six HT.out.x
  go_wp2_with fail
  refine (KS _ HF.out).mono ?_
  rintro _ w2 ⟨K1, A1, c1, rfl, hk1, ho1, -, f2⟩
  have HK1 := Lib.hid hk1
  have HBX := Lib.hid (bx_made ho1 f2)
  have HT := Lib.hid (HT.out.fr (f2.alloc (.cells #[.slice K1.A1 K1.own.length K1.c1, .slice K1.A2 K1.rts.length K1.c2, .slice K1.A3 K1.pts.length K1.c3, .slice K1.A4 K1.crs.length K1.c4, .slice K1.A5 K1.lns.length K1.c5, .slice K1.A6 K1.rss.length K1.c6, .bool K1.dirty] 35)))
  have HF := Lib.hid (fr_nil HF.out (f2.alloc (.cells #[.slice K1.A1 K1.own.length K1.c1, .slice K1.A2 K1.rts.length K1.c2, .slice K1.A3 K1.pts.length K1.c3, .slice K1.A4 K1.crs.length K1.c4, .slice K1.A5 K1.lns.length K1.c5, .slice K1.A6 K1.rss.length K1.c6, .bool K1.dirty] 35)))
  have HSC := Lib.hid (step_cases C.cf V.vp now K.kp)
  clear hk1 ho1 f2 KS p0 p1 p2 p3 p4 p5 p6 p7 p8 k0 k1 k2 k3 k4 k5 k6 x0 x1 x2 x3 x4 x5
  unfold Km.val Km.arr
  generalize stepM C.cf V.vp now K.kp = sm at HK1 HSC ⊢
  obtain ⟨s1, s2, er⟩ := sm
  dsimp only at HK1 HSC ⊢
  go_upto_region 4 with fail
  generalize hw3 : World.alloc _ _ = w3 at *
  generalize w2.heap.size = nb at *
  clear hw3
  rcases HSC.out with hbad | ⟨hfit, hsee, hnow, hk1, he⟩
  · have d1 : (er == 0) = false := by simpa using hbad
    have d2 : (er != 0) = true := by simpa using hbad
    go_wp2_with fail
    go_ret
    exact ⟨rfl, HF.out⟩
  subst he
  have hK1 : K1.kp = cycK C.cf V.vp now K.kp := HK1.out.trans hk1
  have hfit1 : FitP C.cf K1.kp := by rw [hK1]; exact cyc_fit hfit hnow
  have HFR : Hid (∀ j (hj : j < K.own.length) (hj1 : j < K1.own.length), K1.own[j] ≠ K.own[j] → FrS C.cf V.vp now K.kp K1.kp j K.own[j]) := Lib.hid fun j hj hj1 hne => by
    have := frees_plain (v := V.vp) (now := now) hfit hj (by
      rw [← hK1]
      show ownAt K1.own j ≠ ownAt K.own j
      rw [own_at hj1, own_at hj]
      exact hne)
    rw [← hK1] at this
    have e : ownAt K.kp.own j = K.own[j] := own_at hj
    rw [e] at this
    exact this
  have HL : Hid (K1.own.length = K.own.length ∧ K1.rts.length = K.rts.length ∧ C.rs.length = K.rts.length ∧ K.rts.length ≤ 12 ∧ K.own.length ≤ 24 ∧ K.rss.length = K.own.length ∧ V.occ.length = K.own.length ∧ C.cf.rts.length = K.rts.length) := Lib.hid (by
    have a1 : K1.own.length = C.l.length := hfit1.l1
    have a2 : K.own.length = C.l.length := hfit.l1
    have a3 : K1.rts.length = C.cf.rts.length := hfit1.l2
    have a4 : K.rts.length = C.cf.rts.length := hfit.l2
    have a5 : C.cf.rts.length = C.rs.length := by unfold Cm.cf; simp
    have a6 := right_small hfit.chk
    have a7 : K.rss.length = C.l.length := hfit.l6
    have a8 := (seesB_of hsee).occ
    have a9 : C.cf.secs.length = C.l.length := by unfold Cm.cf; simp
    refine ⟨by omega, by omega, by omega, by omega, by omega, by omega, by omega, by omega⟩)
  have HRT : Hid (∀ i (hi : i < K.rts.length), 0 ≤ K.rts[i].since ∧ K.rts[i].since ≤ 4294967295 ∧ 0 ≤ C.tm.hold ∧ C.tm.hold ≤ 40) := Lib.hid fun i hi => by
    have h := hfit.rts i (by rw [← hfit.l2]; exact hi) hi
    have h9 := (check_parts hfit.chk).2.2.2.2.2
    rw [time_parts] at h9
    unfold rsB tmB inB at h
    simp only [Bool.and_eq_true, decide_eq_true_eq] at h h9
    have a : C.cf.tm = C.tm := rfl
    rw [a] at h9
    have e : K.kp.rts[i] = K.rts[i] := rfl
    rw [e] at h
    omega
  clear HSC hfit hsee hnow hk1 hK1 hfit1 HK1
  obtain ⟨k0, -, -, -, -, -, -⟩ := core_cells (K := K) HT.out.k
  have i0 : (K.own.length : Int) ≤ 24 := by have := HL.out; omega
  go_wp2_with fail
  clear k0
  go_loopg [10, 11, 12, 13, 14, 15, 34] K.own.length (fun gi _ _ _ _ _ _ v34 wr => ∃ (j : Nat), j ≤ K.own.length ∧ gi = K.own.length - j ∧ v34 = .int .i64 (j : Nat) ∧ Fr (fun _ => False) w3 wr)
  case atStart => exact ⟨0, Nat.zero_le _, rfl, rfl, Fr.refl _ _⟩
  case round =>
    obtain ⟨j, hj, rfl, rfl, f⟩ := hrel
    by_cases hlt : j < K.own.length
    · have hl := HL.out
      have hlt1 : j < K1.own.length := by omega
      obtain ⟨g, o, hA, q0⟩ := rd_int ((HK.out.fr (fr_nil HF.out f)).own) hlt
      have hbx := HBX.out.fr f
      obtain ⟨g1, o1, hA1, q1⟩ := rd_int (wide_rd hbx.own.own) hlt1
      have n0 : wr.cell? ⟨nb, 0, none⟩ = some (.slice K1.A1 K1.own.length K1.c1) := hbx.is.cell 0
      have n6 : wr.cell? ⟨nb, 6, none⟩ = some (.bool K1.dirty) := hbx.is.cell 6
      rw [hA1] at n0
      rw [hA]
      have HA := Lib.hid hA
      have hfr := HFR.out j hlt hlt1
      have i1 : (0 : Int) ≤ (j : Int) := by omega
      have i2 : (j : Int) < (K.own.length : Int) := by omega
      have i3 : (j : Int) < (K1.own.length : Int) := by omega
      have HJ := Lib.hid hlt
      have HFW := Lib.hid f
      generalize hy1 : K1.own[j] = y1 at q1 hfr
      generalize hy : K.own[j] = y at q0 hfr
      have HY1 : Hid (ownAt K1.own j = y1) := Lib.hid ((own_at hlt1).trans hy1)
      clear hl hA hA1 hbx hlt hlt1 f hj hy hy1
      by_cases he : y1 = y
      · subst he
        clear hfr
        go_wp2_with fail
        rw [← HA.out]
        go_roundg (K.own.length - (j + 1))
        case measure => have := HJ.out; omega
        case rel => exact ⟨j + 1, HJ.out, rfl, by go_num, HFW.out⟩
      have hf9 := hfr he
      clear hfr
      have d1 : (y1 == y) = false := by simpa using he
      have hy1 : y1 = 0 := by
        have a : ownAt K1.own j = 0 := hf9.own
        exact HY1.out.symm.trans a
      have hdi : K1.dirty = true := hf9.dirty
      rw [hdi] at n6
      subst hy1
      have HWHY := Lib.hid hf9.why
      clear hf9 he hdi
      rcases HWHY.out with ⟨rfl, r1, r2, r3, r4⟩ | ⟨i, hi, rfl, r1, r2, hwhy⟩
      · have hjo : j < V.occ.length := by have := HL.out; have := HJ.out; omega
        have hjr : j < K.rss.length := by have := HL.out; have := HJ.out; omega
        have er : K.kp.rss.getD j 0 = K.rss[j] := by
          show K.rss.getD j 0 = _
          rw [List.getD_eq_getElem?_getD, List.getElem?_eq_getElem hjr]; rfl
        rw [er] at r1 r4
        have eo : loAt V.vp.occ j = V.occ[j] := loAt_nat hjo
        rw [eo] at r2 r3 r4
        obtain ⟨g6, o6, hA6, q6⟩ := rd_int ((HK.out.fr (fr_nil HF.out HFW.out)).rss) hjr
        obtain ⟨g7, o7, hA7, v0, v1, v2⟩ := rd_lo ((HV.out.fr (fr_nil HF.out HFW.out)).occ) hjo
        have k5 : wr.cell? ⟨cb + 1, 5, none⟩ = some (.slice K.A6 K.rss.length K.c6) := (HT.out.k.fr HFW.out id).cell 5
        have x0 : wr.cell? ⟨cb + 2, 0, none⟩ = some (.slice V.A1 V.occ.length V.c1) := (HT.out.x.fr HFW.out id).cell 0
        rw [hA6] at k5
        rw [hA7] at x0
        rw [r3] at v0
        rw [r2] at v2
        generalize K.rss[j] = rr at *
        generalize V.occ[j].stamp = st at *
        have e1 : decide (rr ≤ 0) = false := by rw [decide_eq_false_iff_not]; omega
        have e2 : decide (st < rr) = false := by rw [decide_eq_false_iff_not]; omega
        have i4 : (j : Int) < (K.rss.length : Int) := by omega
        have i5 : (j : Int) < (V.occ.length : Int) := by omega
        clear er eo hA6 hA7 hjo hjr r1 r2 r3 r4 HWHY
        go_upto_region 13 with fail
        go_quiet (fail)
        go_wp2_with fail
        rw [← HA.out]
        go_roundg (K.own.length - (j + 1))
        case measure => have := HJ.out; omega
        case rel => exact ⟨j + 1, HJ.out, rfl, by go_num, HFW.out.drewN nq⟩
      · have hil : i < K.rts.length := by have := HL.out; omega
        have hil1 : i < K1.rts.length := by have := HL.out; omega
        have hir : i < C.rs.length := by have := HL.out; omega
        have e4 : rsAt K.kp i = K.rts[i] := rsk_at (k := K.kp) hil
        have e5 : rsAt K1.kp i = K1.rts[i] := rsk_at (k := K1.kp) hil1
        rw [e4] at r1 r2 hwhy
        rw [e5, rt_cf hir] at hwhy
        rw [show C.cf.tm = C.tm from rfl] at r2 hwhy
        obtain ⟨g2, o2, hA2, w4, w5, w6, w7⟩ := rd_rs ((HK.out.fr (fr_nil HF.out HFW.out)).rts) hil
        obtain ⟨g5, o5, hA5, -, -, pth, -⟩ := rd_ro ((HC.out.fr (fr_nil HF.out HFW.out)).rts) hir
        have hpath := ((HC.out.fr (fr_nil HF.out HFW.out)).each _ (List.getElem_mem hir)).path
        have hb1 := ((HC.out.fr (fr_nil HF.out HFW.out)).each _ (List.getElem_mem hir)).b1
        have k1 : wr.cell? ⟨cb + 1, 1, none⟩ = some (.slice K.A2 K.rts.length K.c2) := (HT.out.k.fr HFW.out id).cell 1
        have c4 : wr.cell? ⟨cb, 4, none⟩ = some (.slice C.A5 C.rs.length C.c5) := (HT.out.c.fr HFW.out id).cell 4
        have c7 : wr.cell? ⟨cb, 7, none⟩ = some (.int .i64 C.tm.hold) := (HT.out.c.fr HFW.out id).cell 7
        have x4 : wr.cell? ⟨cb + 2, 4, none⟩ = some (.int .i64 now) := (HT.out.x.fr HFW.out id).cell 4
        rw [hA2] at k1
        rw [hA5] at c4
        have hb := HRT.out i hil
        have HR5 : Hid (K1.rts[i].st = (rsAt K1.kp i).st) := Lib.hid (by rw [e5])
        generalize K1.rts[i] = R1 at hwhy HR5
        generalize K.rts[i] = R at *
        generalize hQ : C.rs[i] = q at *
        obtain ⟨st, since, nxt, mark⟩ := R
        dsimp only at r1 r2 hwhy hb w4 w5 w6 w7
        subst r1
        have HB := Lib.hid hb
        have HIL := Lib.hid hil
        have HWY := Lib.hid hwhy
        have HP := Lib.hid hpath
        have HB1 := Lib.hid hb1
        have d3 : ((i : Int) + 1 == -1) = false := by rw [beq_eq_false_iff_ne]; omega
        have d4 : decide ((i : Int) + 1 ≤ 0) = false := by rw [decide_eq_false_iff_not]; omega
        have d5 : decide (now < since + C.tm.hold) = false := by rw [decide_eq_false_iff_not]; omega
        have j1 : (0 : Int) ≤ (i : Int) := by omega
        have j2 : (i : Int) < (K.rts.length : Int) := by omega
        have j3 : (i : Int) < (C.rs.length : Int) := by omega
        have j4 : (i : Int) ≤ 12 := by have := HL.out; omega
        obtain ⟨l1, l2, l3, l4⟩ := hb
        clear hil hil1 hir e4 e5 hwhy hpath hb1 hA2 hA5 HWHY hQ
        go_upto_region 18 with fail
        have fa := (Fr.refl (fun _ => False) wr).alloc (.cells #[.int .i64 4, .int .i64 since, .int .i64 nxt, .int .i64 mark] 46)
        have ibx := Is.new wr 46 #[.int .i64 4, .int .i64 since, .int .i64 nxt, .int .i64 mark]
        have c4 := (fa.cell (World.block_lt_of_cell? _ _ c4) id).trans c4
        have c7 := (fa.cell (World.block_lt_of_cell? _ _ c7) id).trans c7
        have x4 := (fa.cell (World.block_lt_of_cell? _ _ x4) id).trans x4
        have pth := (fa.cell (World.block_lt_of_cell? _ _ pth) id).trans pth
        have HFA := Lib.hid (fr_nil HFW.out fa)
        have HP := Lib.hid (HP.out.fr fa fun _ _ => id)
        obtain ⟨b0, b1, -, -⟩ := four ibx
        have HIB := Lib.hid ibx
        clear fa ibx q0 q1 n0 n6 w4 w5 w6 w7 k1
        generalize wr.alloc _ = wa at *
        generalize wr.heap.size = ab at *
        go_upto_region 21 with fail
        clear b0 b1 c4 x4 pth c7 d1 d3 d4 d5 i1 i2 i3 j2 j3
        have hq9 : (q.path.length : Int) < 9223372036854775807 := by have := HB1.out; omega
        go_wp2_with fail
        go_loopg [14, 15, 131] q.path.length (fun gi _ _ v131 wi => ∃ (p : Nat), p ≤ q.path.length ∧ gi = q.path.length - p ∧ v131 = .int .i64 (p : Nat) ∧ Fr (fun _ => False) wa wi)
        case atStart => exact ⟨0, Nat.zero_le _, rfl, rfl, Fr.refl _ _⟩
        case round =>
          obtain ⟨p, hp, rfl, rfl, f⟩ := hrel
          by_cases hlp : p < q.path.length
          · obtain ⟨gp, op, hAP, y0, y1, y2⟩ := rd_st (HP.out.fr f fun _ _ => id) hlp
            rw [hAP]
            have HAP := Lib.hid hAP
            have hw : R1.st = 0 ∨ ∃ P : Nat, nxt = (P : Int) ∧ (q.path[p].sec = (j : Int) → p = P) ∧ (loAt V.vp.occ j).ok = true ∧ (loAt V.vp.occ j).val = 0 ∧ since + C.tm.hold < (loAt V.vp.occ j).stamp := HWY.out.imp id fun ⟨P, a, b, c⟩ => ⟨P, a, b p hlp, c⟩
            have i1 : (0 : Int) ≤ (p : Int) := by omega
            have i2 : (p : Int) < (q.path.length : Int) := by omega
            have HPL := Lib.hid hlp
            have HW := Lib.hid hw
            have HFI := Lib.hid f
            generalize q.path[p] = z at *
            clear hAP hw hlp hp f
            obtain ⟨zs, zi, zo⟩ := z
            dsimp only at y0 y1 y2 HW
            go_upto_region 24 with fail
            have is9 := Is.new wr 76 #[.int .i64 zs, .int .i64 zi, .int .i64 zo]
            have HFJ := Lib.hid (HFI.out.alloc (.cells #[.int .i64 zs, .int .i64 zi, .int .i64 zo] 76))
            obtain ⟨t0, -, -⟩ : (wr.alloc (.cells #[.int .i64 zs, .int .i64 zi, .int .i64 zo] 76)).cell? ⟨wr.heap.size, 0, none⟩ = some (.int .i64 zs) ∧ True ∧ True := ⟨is9.cell 0, trivial, trivial⟩
            clear is9 y0 y1 y2
            generalize wr.alloc _ = ws at *
            generalize wr.heap.size = sb at *
            have HF3 := Lib.hid (fr_nil HFA.out HFJ.out)
            have hjo : j < V.occ.length := by have := HL.out; have := HJ.out; omega
            have hil1 : i < K1.rts.length := by have := HL.out; have := HIL.out; omega
            have eo : loAt V.vp.occ j = V.occ[j] := loAt_nat hjo
            have e5 : rsAt K1.kp i = K1.rts[i] := rsk_at (k := K1.kp) hil1
            obtain ⟨g7, o7, hA7, v0, v1, v2⟩ := rd_lo ((HV.out.fr (fr_nil HF.out HF3.out)).occ) hjo
            obtain ⟨g8, o8, hA8, m1, -, -, -⟩ := rd_rs (wide_rd (HBX.out.fr HF3.out).own.rts) hil1
            have x0 : ws.cell? ⟨cb + 2, 0, none⟩ = some (.slice V.A1 V.occ.length V.c1) := (HT.out.x.fr HF3.out id).cell 0
            have c7 : ws.cell? ⟨cb, 7, none⟩ = some (.int .i64 C.tm.hold) := (HT.out.c.fr HF3.out id).cell 7
            have n1 : ws.cell? ⟨nb, 1, none⟩ = some (.slice K1.A2 K1.rts.length K1.c2) := (HBX.out.fr HF3.out).is.cell 1
            obtain ⟨-, b1, b2, -⟩ := four (HIB.out.fr HFJ.out id)
            rw [hA7] at x0
            rw [hA8] at n1
            rw [show K1.rts[i].st = R1.st from by rw [HR5.out, e5]] at m1
            rw [eo] at HW
            generalize V.occ[j] = lo at *
            obtain ⟨lv, ls, lk⟩ := lo
            dsimp only at HW v0 v1 v2
            have i4 : (0 : Int) ≤ (j : Int) := by omega
            have i5 : (j : Int) < (V.occ.length : Int) := by omega
            have i6 : (0 : Int) ≤ (i : Int) := by omega
            have i7 : (i : Int) < (K1.rts.length : Int) := by omega
            have eh : IntKind.i64.wrap (since + C.tm.hold) = since + C.tm.hold := IntWalk.i64_in _ ⟨by have := HB.out; omega, by have := HB.out; omega⟩
            have ei : IntKind.i64.wrap ((i : Int) + 1 - 1) = (i : Int) := by rw [show (i : Int) + 1 - 1 = i by omega]; exact IntWalk.i64_in _ ⟨by omega, by omega⟩
            clear eo e5 hA7 hA8 hjo hil1
            by_cases hz : zs = (j : Int)
            rotate_left
            · have e1 : (zs == (j : Int)) = false := by simpa using hz
              clear hz
              go_quiet (fail)
              go_wp2_with fail
              rw [← HAP.out]
              go_roundg (q.path.length - (p + 1))
              case measure => have := HPL.out; omega
              case rel => exact ⟨p + 1, HPL.out, rfl, by go_num, HFJ.out.drewN nq⟩
            subst hz
            by_cases hpn : (p : Int) = nxt
            rotate_left
            · have e2 : ((p : Int) != nxt) = true := by simpa using hpn
              have hst : R1.st = 0 := HW.out.resolve_right fun ⟨P, a, b, c, d, e⟩ => by have := b rfl; omega
              rw [hst] at m1
              clear hst
              clear hpn
              go_quiet (fail)
              go_wp2_with fail
              rw [← HAP.out]
              go_roundg (q.path.length - (p + 1))
              case measure => have := HPL.out; omega
              case rel => exact ⟨p + 1, HPL.out, rfl, by go_num, HFJ.out.drewN nq⟩
            have e2 : ((p : Int) != nxt) = false := by simpa using hpn
            cases lk
            · have hst : R1.st = 0 := HW.out.resolve_right fun ⟨P, a, b, c, d, e⟩ => by cases c
              rw [hst] at m1
              clear hst
              go_quiet (fail)
              go_wp2_with fail
              rw [← HAP.out]
              go_roundg (q.path.length - (p + 1))
              case measure => have := HPL.out; omega
              case rel => exact ⟨p + 1, HPL.out, rfl, by   go_num, HFJ.out.drewN nq⟩
            by_cases hlv : lv = 0
            rotate_left
            · have e3 : (lv != 0) = true := by simpa using hlv
              have hst : R1.st = 0 := HW.out.resolve_right fun ⟨P, a, b, c, d, e⟩ => by exact hlv d
              rw [hst] at m1
              clear hst
              clear hlv hpn
              go_quiet (fail)
              go_wp2_with fail
              rw [← HAP.out]
              go_roundg (q.path.length - (p + 1))
              case measure => have := HPL.out; omega
              case rel => exact ⟨p + 1, HPL.out, rfl, by go_num, HFJ.out.drewN nq⟩
            have e3 : (lv != 0) = false := by simpa using hlv
            by_cases hls : since + C.tm.hold < ls
            rotate_left
            · have e4 : decide (ls ≤ since + C.tm.hold) = true := by rw [decide_eq_true_iff]; omega
              have hst : R1.st = 0 := HW.out.resolve_right fun ⟨P, a, b, c, d, e⟩ => by exact hls e
              rw [hst] at m1
              clear hst
              clear hls hlv hpn
              go_quiet (fail)
              go_wp2_with fail
              rw [← HAP.out]
              go_roundg (q.path.length - (p + 1))
              case measure => have := HPL.out; omega
              case rel => exact ⟨p + 1, HPL.out, rfl, by go_num, HFJ.out.drewN nq⟩
            have e4 : decide (ls ≤ since + C.tm.hold) = false := by rw [decide_eq_false_iff_not]; omega
            clear hls hlv hpn
            skip
            go_quiet (fail)
            go_wp2_with fail
            rw [← HAP.out]
            go_roundg (q.path.length - (p + 1))
            case measure => have := HPL.out; omega
            case rel => exact ⟨p + 1, HPL.out, rfl, by go_num, HFJ.out.drewN nq⟩
          · have i2 : (j : Int) < (K.own.length : Int) := by have := HJ.out; omega
            go_wp2_with fail
            rw [← HA.out]
            go_roundg (K.own.length - (j + 1))
            case measure => have := HJ.out; omega
            case rel => exact ⟨j + 1, HJ.out, rfl, by go_num, fr_nil HFA.out f⟩
    · clear i0
      go_wp2_with fail
      go_ret
      exact ⟨rfl, fr_nil HF.out f⟩
end Go.Proofs.YtginfnbdnkgjbaaGreat.Nk
/- KernelFrees (P14.3): an owner changes only to free, only where clear, only behind an ending route or a reset asked for before. For every configuration, state and cycle; no condition. -/
namespace Go.Proofs.YtginfnbdnkgjbaaGreat.kernelFrees
open Go.ChangeShapes Go.WideShapes Go.ChangeAt Go.RowKit
open Go.ChangeMaps (open_string shut_string)

theorem q1 : (Rows.kernelFreesRow.inPlace == Tryz.checked.prog.inPlace 12) = true := by kernel_rfl
theorem q2 : (Rows.kernelFreesRow.unfollowed == Tryz.checked.prog.unfollowed 12) = true := by kernel_rfl
theorem q3 : (Rows.kernelFreesRow.recurses == Tryz.checked.prog.recurses 12) = true := by kernel_rfl
theorem q4 : (Rows.kernelFreesRow.named == Tryz.checked.prog.varsNamed 12) = true := by kernel_rfl
theorem closed : joinedFacts Tryz.checked.prog 12 Tryz.f12 Rows.kernelFreesSpec Rows.kernelFreesRow = true := by
  unfold joinedFacts
  simp only [Bool.and_eq_true]
  and_intros
  · kernel_rfl
  · exact Lk.pf1
  · exact Lk.pf2
  · kernel_rfl
  · kernel_rfl
  · kernel_rfl
  · kernel_rfl
  · kernel_rfl
  · kernel_rfl
  · exact q1
  · exact q2
  · exact q3
  · exact q4
  · kernel_rfl
  · kernel_rfl
  · kernel_rfl
  · kernel_rfl
  · kernel_rfl
  · kernel_rfl
  · kernel_rfl
  · kernel_rfl
  · kernel_rfl
  · kernel_rfl
  · kernel_rfl
  · exact Lk.pf3
  · exact Lk.pf4
  · exact Lk.pf5
  · kernel_rfl
  · kernel_rfl
  · kernel_rfl
  · kernel_rfl
  · kernel_rfl

set_option maxRecDepth 100000 in
theorem lifted (os : Os) (started : os.Started) (H : Type) (enc : TypeId × Value → H) :
    ReturnsInHanded {} Tryz.checked os 12 .any (Rows.kernelFreesSpec.pre6 enc Tryz.prog Tryz.f12 Rows.kernelFreesRow.domain false) (Rows.kernelFreesSpec.post enc Tryz.prog Tryz.f12 false true false false) := by
  refine returnsInHanded_of_change_sized (C := Tryz.checked) Tryz.own started (by kernel_rfl) Tryz.func12
    (ChangeSpec.witness6 (enc := enc) (C := Tryz.checked) false ⟨#[], #[.agg #[.slice none 0 0, .slice none 0 0, .slice none 0 0, .slice none 0 0, .slice none 0 0, .int .i64 0, .int .i64 0, .int .i64 0, .int .i64 0], .agg #[.slice none 0 0, .slice none 0 0, .slice none 0 0, .slice none 0 0, .slice none 0 0, .slice none 0 0, .bool false], .agg #[.slice none 0 0, .slice none 0 0, .slice none 0 0, .slice none 0 0, .int .i64 0, .bool false]], []⟩ 8 (by kernel_rfl) (by kernel_rfl) (by kernel_rfl) (by kernel_rfl)) ?_
  intro W base args ds gs before hval0 hW hcnd0 hsz0 _
  have hval : ∀ (j : Nat) t v, Tryz.f12.params[j]? = some t → args[j]? = some v → Value.okWide Tryz.prog W .any base t v := hval0
  have hW' := hW
  obtain ⟨p, q, hA0, hV, rfl, hfz, hnd⟩ := hW
  have hA : DataW.TrodAll enc Tryz.prog W 0 (fun _ => true) true Tryz.f12.params.toList args.toList ds p := hA0
  have hsz : (DataW.weightsEach Tryz.prog (Tryz.f12.params.toList ++ Rows.kernelFreesSpec.plain.varTypes Tryz.prog) (ds ++ gs)).all (· ≤ reachBytes) = true := hsz0
  rw [Tryz.params12] at hA hval hsz
  obtain ⟨v0, v1, v2, d0, d1, d2, p0, p1, p2, rfl, rfl, rfl, h0, h1, h2⟩ := trodAll_three hA
  obtain ⟨rfl, rfl⟩ := trodVars_none hV
  obtain ⟨x0, rfl, i0⟩ := open_conf (hval 0 30 v0 rfl rfl) h0
  obtain ⟨x1, rfl, i1⟩ := Nk.open_core (hval 1 35 v1 rfl rfl) h1
  obtain ⟨x2, n2, r2, rfl, i2⟩ := Nk.open_cycle (hval 2 85 v2 rfl rfl) h2
  have z0 := conf_ok i0 hsz (j := 0) rfl rfl
  have z1 := Nk.core_ok i1 hsz (j := 1) rfl rfl
  refine (Lk.toB (Nk.frees_walk z0 z1 i2 n2 r2)).mono fun e W' ⟨he, hb⟩ => ?_
  subst he
  exact law_post hW' rfl (by kernel_rfl) (by rw [Tryz.params12]; exact of_decide_eq_true (by kernel_rfl)) rfl rfl rfl hb

theorem proved : Rows.KernelFreesSaid :=
  OpenClaim.holds_of_wide 12 Tryz.f12 rfl rfl rfl rfl rfl rfl rfl ⟨rfl, rfl, rfl, rfl, rfl⟩ rfl rfl rfl rfl rfl (by kernel_rfl) Tryz.func12 closed
    (of_decide_eq_true (by kernel_rfl)) (by unfold Func.isWrapper; first | (rw [if_pos (by decide +kernel)]; kernel_rfl) | (rw [if_neg (by decide +kernel)]; exact ⟨rfl, rfl⟩))
    (fun os started H enc _ => lifted os started H enc)
end Go.Proofs.YtginfnbdnkgjbaaGreat.kernelFrees

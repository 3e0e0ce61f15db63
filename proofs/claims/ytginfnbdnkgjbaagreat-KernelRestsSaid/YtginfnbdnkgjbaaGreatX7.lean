import Derived.Test.YtginfnbdnkgjbaaGreatX6
import Derived.Test.YtginfnbdnkgjbaaGreatX4
import Derived.Test.YtginfnbdnkgjbaaGreatX5
import Derived.Test.YtginfnbdnkgjbaaGreatKx
import Derived.Test.YtginfnbdnkgjbaaGreatLtob
import Derived.Test.YtginfnbdnkgjbaaGreatKa
import Derived.Test.YtginfnbdnkgjbaaGreatLfacts
import Derived.SizedLaws
namespace Go.Proofs.YtginfnbdnkgjbaaGreat.Nk
open Go.RowKit Lk
structure FrS (c : Cf) (v : Vp) (now : Int) (k k1 : Kp) (s : Nat) (o : Int) : Prop where
 own : ownAt k1.own s = 0
 dirty : k1.dirty = true
 why : (o = -1 ∧ 0 < k.rss.getD s 0 ∧ (loAt v.occ s).ok = true ∧ (loAt v.occ s).val = 0 ∧ k.rss.getD s 0 ≤ (loAt v.occ s).stamp) ∨
  ∃ i : Nat, i < c.rts.length ∧ o = (i : Int) + 1 ∧ (rsAt k i).st = 4 ∧ (rsAt k i).since + c.tm.hold ≤ now ∧
   ((rsAt k1 i).st = 0 ∨ ∃ p : Nat, ((rsAt k i).nxt = (p : Int)) ∧ (∀ j (hj : j < (rtAt c i).path.length), ((rtAt c i).path[j]).sec = (s : Int) → j = p) ∧
    (loAt v.occ s).ok = true ∧ (loAt v.occ s).val = 0 ∧ (rsAt k i).since + c.tm.hold < (loAt v.occ s).stamp)
structure Tri (w : World) (cb : Nat) (C : Cm) (K : Km) (V : Vm) (now : Int) (rec : Bool) : Prop where
 c : Is w cb 30 C.arr
 k : Is w (cb + 1) 35 K.arr
 x : Is w (cb + 2) 85 #[.slice V.A1 V.occ.length V.c1, .slice V.A2 V.pos.length V.c2, .slice V.A3 V.shut.length V.c3, .slice V.A4 V.lamp.length V.c4, .int .i64 now, .bool rec]
theorem Tri.fr {w w1 : World} {cb : Nat} {C : Cm} {K : Km} {V : Vm} {now : Int} {rec : Bool} (h : Tri w cb C K V now rec) (f : Fr (fun _ => False) w w1) : Tri w1 cb C K V now rec := ⟨h.c.fr f id, h.k.fr f id, h.x.fr f id⟩
theorem rsk_at {k : Kp} {j : Nat} (hj : j < k.rts.length) : rsAt k j = k.rts[j] := by
 unfold rsAt
 rw [Int.toNat_natCast, List.getD_eq_getElem?_getD, List.getElem?_eq_getElem hj]; rfl
end Go.Proofs.YtginfnbdnkgjbaaGreat.Nk
namespace Go.Proofs.YtginfnbdnkgjbaaGreat.Nk
open Go.RowKit Lk
def restK (c : Cf) : Kp := { openM c with dirty := false }
theorem restK_fit {c : Cf} (h : checkE c = 0) : FitP c (restK c) := (open_fit h).with_dirty false
structure Rest (c : Cf) (k : Kp) : Prop where
 own : ∀ x ∈ k.own, x = 0
 rts : ∀ x ∈ k.rts, x.st = 0
 crs : ∀ x ∈ k.crs, x.cmd = 2
 dirty : k.dirty = false
 asp : aspAll c k c.rts.length = List.replicate c.sigs.length 0
theorem zero_own (l : List Sec) (s : Int) : ownAt (l.map fun _ => 0) s = 0 := by
 unfold ownAt
 rw [List.getD_eq_getElem?_getD, List.getElem?_map]
 cases l[s.toNat]? <;> rfl
theorem rest_plain {c : Cf} {v : Vp} {now : Int} (h : checkE c = 0) : Rest c (cycK c v now (restK c)) := by
 have F := restK_fit h
 have hr : ∀ x ∈ (restK c).rts, x.st = 0 := fun x hx => by
  unfold restK openM newM at hx
  simp only [List.mem_map] at hx
  obtain ⟨_, _, rfl⟩ := hx
  rfl
 have hi : ∀ i : Nat, i < c.rts.length → (rsAt (restK c) i).st = 0 := fun i hi => by
  have hl : i < (restK c).rts.length := by rw [F.l2]; exact hi
  have e : rsAt (restK c) i = (restK c).rts[i] := rsk_at hl
  rw [e]
  exact hr _ (List.getElem_mem hl)
 have hz : ∀ j, j < (restK c).rss.length → (restK c).rss.getD j 0 = 0 := fun j hj => by
  unfold restK openM newM
  dsimp only
  rw [List.getD_eq_getElem?_getD, List.getElem?_map]
  cases c.secs[j]? <;> rfl
 rw [rest_cyc hi hz]
 have s := crossAll_same c now (restK c) c.crs.length
 have l := crossAll_crl c now (restK c) c.crs.length
 refine ⟨?_, ?_, ?_, by rw [s.2.2.2]; rfl, ?_⟩
 ·rw [s.1]
  intro x hx
  obtain ⟨_, _, rfl⟩ := List.mem_map.1 hx
  rfl
 ·rw [s.2.1]
  exact hr
 ·intro x hx
  obtain ⟨j, hj, rfl⟩ := List.getElem_of_mem hx
  have hj2 : j < (restK c).crs.length := by rw [← l.1]; exact hj
  have := crossAll_cmd c now (restK c) c.crs.length j (by rw [← F.l4]; exact hj2) hj2
  rw [List.getD_eq_getElem?_getD, List.getElem?_eq_getElem hj] at this
  exact this.trans (if_pos (zero_own c.secs _))
 ·refine aspAll_stop c _ _ fun i h9 => ?_
  have e : rsAt (crossAll c now (restK c) c.crs.length) i = rsAt (restK c) i := by unfold rsAt; rw [s.2.1]
  rw [e, hi i h9]
  decide
section
open Go.ChangeShapes Go.WideShapes Go.ChangeAt Go.Deep Go.Joins
variable {H : Type} {enc : TypeId × Value → H} {w : World} {base : Nat}
set_option maxRecDepth 100000 in
theorem open_view {v : Value} {d : DataW H} {ps : List MemPlace} (hv : Value.okWide Tryz.prog w .any base 83 v) (h : DataW.Trod enc Tryz.prog w 0 (fun _ => true) true 83 v d ps) : ∃ V : Vm, v = V.val ∧ V.Ok w := by
 simp only [Value.okWide, Tryz.underlying83] at hv
 obtain ⟨cs, rfl, hcs, _⟩ := hv
 obtain ⟨fuel, hf0⟩ := h
 obtain ⟨l⟩ := cs
 obtain ⟨V, e, hV⟩ := view_of hf0
 exact ⟨V, by subst e; rfl, hV⟩
end
set_option maxRecDepth 100000 in
set_option maxHeartbeats 16000000 in
theorem rests_walk {C : Cm} {V : Vm} {w : World} (hC : C.Ok w) (hV : V.Ok w) (now : Int) :
  Calls Tryz.prog 15 #[C.val, V.val, .int .i64 now] w fun e w' => e = .returned (.bool true) ∧ Fr (fun _ => False) w w' := by
 have KS := fun (W : World) (f : Fr (fun _ => False) w W) (K : Km) (h : K.Ok W) => step_any (hC.fr f) h (hV.fr f) now
 have KC := fun (W : World) (f : Fr (fun _ => False) w W) => rck_any C W (hC.fr f)
 have KO := fun (W : World) (f : Fr (fun _ => False) w W) hcr => Lk.free_any W (hC.fr f) hcr
 have HC := Lib.hid hC
 have HV := Lib.hid hV
 have HF := Lib.hid (((Fr.refl (fun _ => False) w).alloc (.cells C.arr 30)).alloc (.cells V.arr 83))
 have HI := Lib.hid ((Is.new w 30 C.arr).alloc (.cells V.arr 83))
 have hJ := Is.new (w.alloc (.cells C.arr 30)) 83 V.arr
 rw [show (w.alloc (.cells C.arr 30)).heap.size = w.heap.size + 1 by simp] at hJ
 have HJ := Lib.hid hJ
 clear hJ hC hV
 unfold Cm.val Cm.arr Vm.val Vm.arr at *
 go_enter Tryz.func15, Tryz.ntmps15
 go_wp2_with fail
 generalize World.alloc _ _ = w0 at *
 generalize hcb : w.heap.size = cb at *
 clear hcb
 refine (lives14_any _).mono ?_
 rintro _ w1 ⟨rfl, f1⟩
 have HI := Lib.hid (HI.out.fr f1 id)
 have HJ := Lib.hid (HJ.out.fr f1 id)
 have HF := Lib.hid (fr_nil HF.out f1)
 clear f1
 obtain ⟨p0, p1, p2, p3, p4, p5, p6, p7, p8⟩ := conf_cells0 HI.out
 go_wp2_with fail
 refine (KC _ HF.out).mono ?_
 rintro _ w2 ⟨rfl, f2⟩
 have HF := Lib.hid (fr_nil HF.out f2)
 have HI := Lib.hid (HI.out.fr f2 id)
 have HJ := Lib.hid (HJ.out.fr f2 id)
 clear f2 KC p0 p1 p2 p3 p4 p5 p6 p7 p8
 obtain ⟨p0, p1, p2, p3, p4, p5, p6, p7, p8⟩ := conf_cells0 HI.out
 by_cases hck : checkE C.cf = 0
 rotate_left
 ·have d1 : (checkE C.cf == 0) = false := by simpa using hck
  have d2 : (checkE C.cf != 0) = true := by simpa using hck
  go_wp2_with fail
  go_ret
  exact ⟨rfl, HF.out⟩
 rw [hck]
 have hsm : C.l.length ≤ 24 ∧ C.cr.length ≤ 4 ∧ C.rs.length ≤ 12 ∧ C.sg.length ≤ 12 := by
  have h := right_small hck
  have h2 := (check_parts hck).2.1
  unfold Cm.cf at h h2
  simp only [Bool.and_eq_true, decide_eq_true_eq] at h2
  simp only [List.length_map] at h
  exact ⟨h.1, h.2.1, h.2.2, h2.1⟩
 have HSM := Lib.hid hsm
 have HCK := Lib.hid hck
 have KO := KO _ HF.out (by omega)
 clear hck hsm
 go_wp2_with fail
 refine KO.mono ?_
 rintro _ w3 ⟨K, rfl, hk, ho, f3⟩
 have HK := Lib.hid (show K.kp = restK C.cf from hk)
 have HBK := Lib.hid (bx_made ho f3)
 have HF := Lib.hid (fr_nil HF.out (f3.alloc (.cells #[.slice K.A1 K.own.length K.c1, .slice K.A2 K.rts.length K.c2, .slice K.A3 K.pts.length K.c3, .slice K.A4 K.crs.length K.c4, .slice K.A5 K.lns.length K.c5, .slice K.A6 K.rss.length K.c6, .bool K.dirty] 35)))
 have HI := Lib.hid (HI.out.fr HBK.out.f id)
 have HJ := Lib.hid (HJ.out.fr HBK.out.f id)
 clear hk ho f3 KO p0 p1 p2 p3 p4 p5 p6 p7 p8
 unfold Km.val Km.arr
 go_upto_region 6 with fail
 generalize hw4 : World.alloc _ _ = w4 at *
 generalize w3.heap.size = kb at *
 clear hw4
 have KS := KS _ HF.out K (fit_ok HBK.out.own (by rw [HK.out]; exact restK_fit HCK.out))
 rw [HK.out] at KS
 unfold Km.val Km.arr at KS
 obtain ⟨p0, p1, p2, p3, p4, p5, p6, p7, p8⟩ := conf_cells0 HI.out
 obtain ⟨k0, k1, k2, k3, k4, k5, k6⟩ := core_cells (K := K) HBK.out.is
 obtain ⟨v0, v1, v2, v3⟩ := four HJ.out
 go_wp2_with fail
 refine KS.mono ?_
 rintro _ w5 ⟨K1, A1, c1, rfl, hk1, ho1, hr1, f5⟩
 have HK1 := Lib.hid hk1
 have HR1 := Lib.hid (wide_fr hr1 ((Fr.refl (fun _ => False) w5).alloc (.cells #[.slice K1.A1 K1.own.length K1.c1, .slice K1.A2 K1.rts.length K1.c2, .slice K1.A3 K1.pts.length K1.c3, .slice K1.A4 K1.crs.length K1.c4, .slice K1.A5 K1.lns.length K1.c5, .slice K1.A6 K1.rss.length K1.c6, .bool K1.dirty] 35)) fun _ _ => id)
 have HB1 := Lib.hid (bx_made ho1 f5)
 have HF := Lib.hid (fr_nil HF.out HB1.out.f)
 have HI := Lib.hid (HI.out.fr HB1.out.f id)
 have HBK := Lib.hid (HBK.out.fr HB1.out.f)
 clear hk1 ho1 hr1 f5 KS p0 p1 p2 p3 p4 p5 p6 p7 p8 k0 k1 k2 k3 k4 k5 k6 v0 v1 v2 v3
 unfold Km.val Km.arr
 go_upto_region 7 with fail
 generalize hw6 : World.alloc _ _ = w6 at *
 generalize w5.heap.size = nb at *
 clear hw6
 by_cases hok : seesB C.cf V.vp = true ∧ tmB now = true
 rotate_left
 ·have hst : ∃ er : Int, er ≠ 0 ∧ stepM C.cf V.vp now (restK C.cf) = (restK C.cf, [], er) := by
   unfold stepM
   rw [fits_iff.2 (restK_fit HCK.out), Bool.true_and]
   cases h1 : seesB C.cf V.vp
   ·exact ⟨21, by decide, by rw [if_pos rfl]⟩
   ·cases h2 : tmB now
    ·exact ⟨32, by decide, by rw [if_neg (by decide), if_pos rfl]⟩
    ·exact absurd ⟨h1, h2⟩ hok
  obtain ⟨er, her, hst⟩ := hst
  rw [hst] at HK1 HR1 ⊢
  dsimp only at HK1 HR1 ⊢
  have d1 : (er == 0) = false := by simpa using her
  have d2 : (er != 0) = true := by simpa using her
  clear hok hst her
  have KM := fun W (f : Fr (fun _ => False) w6 W) => same_any K1 K W (fit_ok (HB1.out.fr f).own (by rw [HK1.out]; exact restK_fit HCK.out)) (fit_ok (HBK.out.fr f).own (by rw [HK.out]; exact restK_fit HCK.out)) (HK1.out.trans HK.out.symm)
  unfold Km.val Km.arr at KM
  obtain ⟨n0, n1, n2, n3, n4, n5, n6⟩ := core_cells (K := K1) HB1.out.is
  obtain ⟨k0, k1, k2, k3, k4, k5, k6⟩ := core_cells (K := K) HBK.out.is
  go_wp2_with fail
  refine (KM _ (Fr.refl _ _)).mono ?_
  rintro _ w7 ⟨rfl, f7⟩
  clear n0 n1 n2 n3 n4 n5 n6 k0 k1 k2 k3 k4 k5 k6 KM
  go_wp2_with fail
  go_ret
  exact ⟨rfl, fr_nil HF.out f7⟩
 have hst : stepM C.cf V.vp now (restK C.cf) = (cycK C.cf V.vp now (restK C.cf), List.replicate C.cf.sigs.length 0, 0) := by
  unfold stepM
  rw [fits_iff.2 (restK_fit HCK.out), hok.1, hok.2, if_neg (by decide), if_neg (by decide), (rest_plain (v := V.vp) (now := now) HCK.out).asp]
 have hf1 : FitP C.cf (cycK C.cf V.vp now (restK C.cf)) := cyc_fit (restK_fit HCK.out) hok.2
 rw [hst] at HK1 HR1 ⊢
 dsimp only at HK1 HR1 ⊢
 rw [List.length_replicate] at HR1 ⊢
 rw [show C.cf.sigs.length = C.sg.length from by unfold Cm.cf; simp] at HR1 ⊢
 rw [← HK1.out] at hf1
 have HRE : Hid (Rest C.cf K1.kp) := Lib.hid (by rw [HK1.out]; exact rest_plain HCK.out)
 have hlen : K1.own.length = K.own.length ∧ K.own.length ≤ 24 ∧ K1.rts.length ≤ 12 ∧ K1.crs.length ≤ 4 := by
  have a1 : K1.own.length = C.cf.secs.length := hf1.l1
  have a2 : K.own.length = C.cf.secs.length := by
   have := (restK_fit HCK.out).l1
   rw [← HK.out] at this
   exact this
  have a3 : K1.rts.length = C.cf.rts.length := hf1.l2
  have a4 : K1.crs.length = C.cf.crs.length := hf1.l4
  have a6 := right_small HCK.out
  omega
 have HL := Lib.hid hlen
 obtain ⟨l1, l2, l3, l4⟩ := hlen
 have l5 := HSM.out.2.2.2
 clear hst hok hf1
 obtain ⟨k0, -, -, -, -, -, -⟩ := core_cells (K := K) HBK.out.is
 go_wp2_with fail
 clear k0
 go_loopg [11, 47] K.own.length (fun gi _ vi wr => ∃ (j : Nat), j ≤ K.own.length ∧ gi = K.own.length - j ∧ vi = .int .i64 (j : Nat) ∧ Fr (fun _ => False) w6 wr)
 case atStart => exact ⟨0, Nat.zero_le _, rfl, rfl, Fr.refl _ _⟩
 case round =>
  obtain ⟨j, hj, rfl, rfl, f⟩ := hrel
  by_cases hlt : j < K.own.length
  ·have hlt1 : j < K1.own.length := by omega
   have hbx := HB1.out.fr f
   obtain ⟨g1, o1, hA1, q1⟩ := rd_int (wide_rd hbx.own.own) hlt1
   have n0 : wr.cell? ⟨nb, 0, none⟩ = some (.slice K1.A1 K1.own.length K1.c1) := hbx.is.cell 0
   rw [hA1] at n0
   rw [HRE.out.own _ (List.getElem_mem hlt1)] at q1
   have i1 : (0 : Int) ≤ (j : Int) := by omega
   have i2 : (j : Int) < (K.own.length : Int) := by omega
   have i3 : (j : Int) < (K1.own.length : Int) := by omega
   have HJ := Lib.hid hlt
   have HFW := Lib.hid f
   clear hA1 hbx hlt hlt1 f hj
   go_wp2_with fail
   go_roundg (K.own.length - (j + 1))
   case measure => have := HJ.out; omega
   case rel => exact ⟨j + 1, HJ.out, rfl, by go_num, HFW.out⟩
  ·have hje : K.own.length = j := by omega
   subst hje
   clear hj hlt
   have HFa := Lib.hid f
   have n1 : wr.cell? ⟨nb, 1, none⟩ = some (.slice K1.A2 K1.rts.length K1.c2) := (HB1.out.fr f).is.cell 1
   clear f
   go_wp2_with fail
   clear n1
   go_loopg [13, 60] K1.rts.length (fun gi _ vi wr => ∃ (j : Nat), j ≤ K1.rts.length ∧ gi = K1.rts.length - j ∧ vi = .int .i64 (j : Nat) ∧ Fr (fun _ => False) w6 wr)
   case atStart => exact ⟨0, Nat.zero_le _, rfl, rfl, HFa.out⟩
   case round =>
    obtain ⟨j, hj, rfl, rfl, f⟩ := hrel
    by_cases hlt : j < K1.rts.length
    ·have hbx := HB1.out.fr f
     obtain ⟨g1, o1, hA1, q1, q2, q3, q4⟩ := rd_rs (wide_rd hbx.own.rts) hlt
     rw [HRE.out.rts _ (List.getElem_mem hlt)] at q1
     have i1 : (0 : Int) ≤ (j : Int) := by omega
     have i2 : (j : Int) < (K1.rts.length : Int) := by omega
     have HJ := Lib.hid hlt
     have HFW := Lib.hid f
     have HA1 := Lib.hid hA1
     rw [hA1]
     generalize K1.rts[j] = y at *
     obtain ⟨y0, y1, y2, y3⟩ := y
     dsimp only at q1 q2 q3 q4
     clear hA1 hbx hlt f hj
     go_upto_region 18 with fail
     have fa := (Fr.refl (fun _ => False) wr).alloc (.cells #[.int .i64 0, .int .i64 y1, .int .i64 y2, .int .i64 y3] 46)
     have ibx := Is.new wr 46 #[.int .i64 0, .int .i64 y1, .int .i64 y2, .int .i64 y3]
     obtain ⟨b0, -, -, -⟩ := four ibx
     have HFA := Lib.hid (fr_nil HFW.out fa)
     clear fa ibx q1 q2 q3 q4
     generalize wr.alloc _ = wa at *
     generalize wr.heap.size = ab at *
     go_wp2_with fail
     rw [← HA1.out]
     go_roundg (K1.rts.length - (j + 1))
     case measure => have := HJ.out; omega
     case rel => exact ⟨j + 1, HJ.out, rfl, by go_num, HFA.out⟩
    ·have hje : K1.rts.length = j := by omega
     subst hje
     clear hj hlt
     have HFb := Lib.hid f
     have n3 : wr.cell? ⟨nb, 3, none⟩ = some (.slice K1.A4 K1.crs.length K1.c4) := (HB1.out.fr f).is.cell 3
     clear f
     go_wp2_with fail
     clear n3
     go_loopg [15, 71] K1.crs.length (fun gi _ vi wr => ∃ (j : Nat), j ≤ K1.crs.length ∧ gi = K1.crs.length - j ∧ vi = .int .i64 (j : Nat) ∧ Fr (fun _ => False) w6 wr)
     case atStart => exact ⟨0, Nat.zero_le _, rfl, rfl, HFb.out⟩
     case round =>
      obtain ⟨j, hj, rfl, rfl, f⟩ := hrel
      by_cases hlt : j < K1.crs.length
      ·have hbx := HB1.out.fr f
       obtain ⟨g1, o1, hA1, q1, q2⟩ := rd_mo (wide_rd hbx.own.crs) hlt
       rw [HRE.out.crs _ (List.getElem_mem hlt)] at q1
       have i1 : (0 : Int) ≤ (j : Int) := by omega
       have i2 : (j : Int) < (K1.crs.length : Int) := by omega
       have HJ := Lib.hid hlt
       have HFW := Lib.hid f
       have HA1 := Lib.hid hA1
       rw [hA1]
       generalize K1.crs[j] = y at *
       obtain ⟨y0, y1⟩ := y
       dsimp only at q1 q2
       clear hA1 hbx hlt f hj
       go_upto_region 24 with fail
       have fa := (Fr.refl (fun _ => False) wr).alloc (.cells #[.int .i64 2, .int .i64 y1] 48)
       have ibx := Is.new wr 48 #[.int .i64 2, .int .i64 y1]
       have b0 := ibx.cell 0
       have HFA := Lib.hid (fr_nil HFW.out fa)
       clear fa ibx q1 q2
       generalize wr.alloc _ = wa at *
       generalize wr.heap.size = ab at *
       go_wp2_with fail
       rw [← HA1.out]
       go_roundg (K1.crs.length - (j + 1))
       case measure => have := HJ.out; omega
       case rel => exact ⟨j + 1, HJ.out, rfl, by go_num, HFA.out⟩
      ·have hje : K1.crs.length = j := by omega
       subst hje
       clear hj hlt
       have HFc := Lib.hid f
       clear f
       go_wp2_with fail
       go_loopg [17, 81] C.sg.length (fun gi _ vi wr => ∃ (j : Nat), j ≤ C.sg.length ∧ gi = C.sg.length - j ∧ vi = .int .i64 (j : Nat) ∧ Fr (fun _ => False) w6 wr)
       case atStart => exact ⟨0, Nat.zero_le _, rfl, rfl, HFc.out⟩
       case round =>
        obtain ⟨j, hj, rfl, rfl, f⟩ := hrel
        by_cases hlt : j < C.sg.length
        ·obtain ⟨g1, o1, hA1, q1⟩ := rd_int (l := List.replicate C.sg.length (0 : Int)) ((wide_rd HR1.out).fr f fun _ _ => id) (by rw [List.length_replicate]; exact hlt)
         rw [List.getElem_replicate] at q1
         have i1 : (0 : Int) ≤ (j : Int) := by omega
         have i2 : (j : Int) < (C.sg.length : Int) := by omega
         have HJ := Lib.hid hlt
         have HFW := Lib.hid f
         have HA1 := Lib.hid hA1
         rw [hA1]
         clear hA1 hlt f hj
         go_wp2_with fail
         rw [← HA1.out]
         go_roundg (C.sg.length - (j + 1))
         case measure => have := HJ.out; omega
         case rel => exact ⟨j + 1, HJ.out, rfl, by go_num, HFW.out⟩
        ·have hje : C.sg.length = j := by omega
         subst hje
         clear hj hlt
         have HFd := Lib.hid f
         have n6 : wr.cell? ⟨nb, 6, none⟩ = some (.bool K1.dirty) := (HB1.out.fr f).is.cell 6
         rw [show K1.dirty = false from HRE.out.dirty] at n6
         have p2 : wr.cell? ⟨cb, 2, none⟩ = some (.slice C.A3 C.sg.length C.c3) := (HI.out.fr f id).cell 2
         clear f
         go_wp2_with fail
         go_ret
         exact ⟨rfl, fr_nil HF.out HFd.out⟩
end Go.Proofs.YtginfnbdnkgjbaaGreat.Nk
namespace Go.Proofs.YtginfnbdnkgjbaaGreat.kernelRests
open Go.ChangeShapes Go.WideShapes Go.ChangeAt Go.RowKit
open Go.ChangeMaps (open_string shut_string)
theorem q1 : (Rows.kernelRestsRow.inPlace == Tryz.checked.prog.inPlace 15) = true := by kernel_rfl
theorem q2 : (Rows.kernelRestsRow.unfollowed == Tryz.checked.prog.unfollowed 15) = true := by kernel_rfl
theorem q3 : (Rows.kernelRestsRow.recurses == Tryz.checked.prog.recurses 15) = true := by kernel_rfl
theorem q4 : (Rows.kernelRestsRow.named == Tryz.checked.prog.varsNamed 15) = true := by kernel_rfl
theorem closed : joinedFacts Tryz.checked.prog 15 Tryz.f15 Rows.kernelRestsSpec Rows.kernelRestsRow = true := by
 unfold joinedFacts
 simp only [Bool.and_eq_true]
 and_intros
 ·kernel_rfl
 ·exact Lk.pf1
 ·exact Lk.pf2
 ·kernel_rfl
 ·kernel_rfl
 ·kernel_rfl
 ·kernel_rfl
 ·kernel_rfl
 ·kernel_rfl
 ·exact q1
 ·exact q2
 ·exact q3
 ·exact q4
 ·kernel_rfl
 ·kernel_rfl
 ·kernel_rfl
 ·kernel_rfl
 ·kernel_rfl
 ·kernel_rfl
 ·kernel_rfl
 ·kernel_rfl
 ·kernel_rfl
 ·kernel_rfl
 ·kernel_rfl
 ·exact Lk.pf3
 ·exact Lk.pf4
 ·exact Lk.pf5
 ·kernel_rfl
 ·kernel_rfl
 ·kernel_rfl
 ·kernel_rfl
 ·kernel_rfl
set_option maxRecDepth 100000 in
theorem lifted (os : Os) (started : os.Started) (H : Type) (enc : TypeId × Value → H) :
  ReturnsInHanded {} Tryz.checked os 15 .any (Rows.kernelRestsSpec.pre6 enc Tryz.prog Tryz.f15 Rows.kernelRestsRow.domain false) (Rows.kernelRestsSpec.post enc Tryz.prog Tryz.f15 false true false false) := by
 refine returnsInHanded_of_change_sized (C := Tryz.checked) Tryz.own started (by kernel_rfl) Tryz.func15
  (ChangeSpec.witness6 (enc := enc) (C := Tryz.checked) false ⟨#[], #[.agg #[.slice none 0 0, .slice none 0 0, .slice none 0 0, .slice none 0 0, .slice none 0 0, .int .i64 0, .int .i64 0, .int .i64 0, .int .i64 0], .agg #[.slice none 0 0, .slice none 0 0, .slice none 0 0, .slice none 0 0], .int .i64 0], []⟩ 8 (by kernel_rfl) (by kernel_rfl) (by kernel_rfl) (by kernel_rfl)) ?_
 intro W base args ds gs before hval0 hW hcnd0 hsz0 _
 have hval : ∀ (j : Nat) t v, Tryz.f15.params[j]? = some t → args[j]? = some v → Value.okWide Tryz.prog W .any base t v := hval0
 have hW' := hW
 obtain ⟨p, q, hA0, hV, rfl, hfz, hnd⟩ := hW
 have hA : DataW.TrodAll enc Tryz.prog W 0 (fun _ => true) true Tryz.f15.params.toList args.toList ds p := hA0
 have hsz : (DataW.weightsEach Tryz.prog (Tryz.f15.params.toList ++ Rows.kernelRestsSpec.plain.varTypes Tryz.prog) (ds ++ gs)).all (· ≤ reachBytes) = true := hsz0
 rw [Tryz.params15] at hA hval hsz
 obtain ⟨v0, v1, v2, d0, d1, d2, p0, p1, p2, rfl, rfl, rfl, h0, h1, h2⟩ := trodAll_three hA
 obtain ⟨rfl, rfl⟩ := trodVars_none hV
 obtain ⟨x0, rfl, i0⟩ := open_conf (hval 0 30 v0 rfl rfl) h0
 obtain ⟨x1, rfl, i1⟩ := Nk.open_view (hval 1 83 v1 rfl rfl) h1
 obtain ⟨a2, rfl, rfl, rfl, w2⟩ := open_int Tryz.underlying3 (hval 2 3 v2 rfl rfl) h2
 have b2 : -9223372036854775808 ≤ a2 ∧ a2 ≤ 9223372036854775807 := by
  simp only [Lit.wf, IntKind.min, IntKind.max, IntKind.signed, IntKind.bits, Bool.and_eq_true, decide_eq_true_eq, if_true] at w2
  have := w2.1
  have := w2.2
  omega
 have z0 := conf_ok i0 hsz (j := 0) rfl rfl
 refine (Lk.toB (Nk.rests_walk z0 i1 a2)).mono fun e W' ⟨he, hb⟩ => ?_
 subst he
 exact law_post hW' rfl (by kernel_rfl) (by rw [Tryz.params15]; exact of_decide_eq_true (by kernel_rfl)) rfl rfl rfl hb
theorem proved : Rows.KernelRestsSaid :=
 OpenClaim.holds_of_wide 15 Tryz.f15 rfl rfl rfl rfl rfl rfl rfl ⟨rfl, rfl, rfl, rfl, rfl⟩ rfl rfl rfl rfl rfl (by kernel_rfl) Tryz.func15 closed
  (of_decide_eq_true (by kernel_rfl)) (by unfold Func.isWrapper; first | (rw [if_pos (by decide +kernel)]; kernel_rfl) | (rw [if_neg (by decide +kernel)]; exact ⟨rfl, rfl⟩))
  (fun os started H enc _ => lifted os started H enc)
end Go.Proofs.YtginfnbdnkgjbaaGreat.kernelRests

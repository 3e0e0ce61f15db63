/- ImageTakes: the law's walk. -/
import Derived.Test.YtfmhfngilimhjaaJv9
import Derived.Test.YtfmhfngilimhjaaIopen
import Derived.Test.YtfmhfngilimhjaaImlost
import Derived.Deep.RegionLaw
namespace Go.Proofs.Ytfmhfngilimhjaa.Im
open Go.RowKit Li

def M0 (C : Te.Cf) : Nat → Km := fun j => ⟨R.new (j : Nat) C.t.age, Te.nilSta.st, -1⟩
theorem both_new {w1 wA wB wC : World} {C : Te.Cf} {b ob bj : Nat} {ks oks : List Kc} {vR vS vZ : Value} {rbs : List Nat} (hz : w1.heap.size ≤ wA.heap.size)
    (a1 : Im wA b ks C) (a2 : ks.length = 4) (a3 : ∀ j (h : j < ks.length), ks[j].m = ⟨R.new (j : Nat) C.t.age, Te.nilSta.st, -1⟩ ∧ ks[j].h.st = Te.shL C (j : Nat)) (a4 : ∀ q, Foot b ks q → w1.heap.size ≤ q) (a5 : ∀ k ∈ ks, k.s = Te.nilSta)
    (b1 : rbs.length = 4) (b2 : Bl wB wA.heap.size bj C vR vS vZ rbs 4 4) (fB : Fr (fun _ => False) wA wB)
    (c1 : Im wC ob oks C) (c2 : oks.length = 4) (c3 : ∀ j (h : j < oks.length), oks[j].m = ⟨R.new (j : Nat) C.t.age, Te.nilSta.st, -1⟩ ∧ oks[j].h.st = Te.shL C (j : Nat)) (c4 : ∀ q, Foot ob oks q → wB.heap.size ≤ q) (c5 : ∀ k ∈ oks, k.h.New wB.heap.size ∧ k.s = Te.nilSta) (fC : Fr (fun _ => False) wB wC) :
    ∃ (p : Jp) (rs : List Kr), p.b = bj ∧ Both wC w1.heap.size wA.heap.size b ob p C 0 0 (M0 C) (M0 C) ks oks rs := by
  obtain ⟨p, rs, hp, hj, hm, hs⟩ := b2.jm b1
  have hjb : ∀ q, Jf p rs q → wA.heap.size ≤ q ∧ q < wB.heap.size := fun q hq => Jf.lo hj hq
  have hfb : ∀ q, Foot b ks q → q < wA.heap.size := fun q hq => a1.foot_lt hq
  have hsz := fB.size
  refine ⟨p, rs, hp, ⟨(a1.fr0 fB).fr0 fC, a2, new_fit a3, fun k hk => ?_, fun j h => (a3 j h).1, hj.fr0 fC, hm, fun q hq => ⟨a4 q hq, hfb q hq⟩, hz, fun k hk => ⟨(a1.ok k hk).h.off_new fun q hq => (hjb q hq).1, by rw [a5 k hk]; exact Te.nilSta_off _⟩, c1, c2, fun k hk => ?_, fun q hq => ⟨Nat.le_trans hsz (c4 q hq), fun hc => ?_⟩, fun k hk => ⟨⟨(c5 k hk).1.off fun q hq => (hjb q hq).2, by rw [(c5 k hk).2]; exact Te.nilSta_off _⟩, (c5 k hk).1.off fun q hq => by have := hfb q hq; omega, by rw [(c5 k hk).2]; exact Te.nilSta_off _⟩⟩⟩
  · obtain ⟨j, h, rfl⟩ := List.getElem_of_mem hk
    have e : ks[j].r.lost = 0 := congrArg (fun m => m.r.lost) (a3 j h).1
    omega
  · obtain ⟨j, h, rfl⟩ := List.getElem_of_mem hk
    exact congrArg (fun m => m.r.lost) (c3 j h).1
  · have := (hjb q hc).2
    have := c4 q hq
    omega
theorem fr_low {w1 w w2 : World} {base : Nat} (h : Fr (fun _ => False) w1 w) (f : Fr (fun q => w1.heap.size ≤ q ∧ q < base) w w2) : Fr (fun _ => False) w1 w2 := h.trans f fun q hq hS => by omega
theorem fr_jf {w1 w w2 : World} {base b ob n nJ : Nat} {p : Jp} {C : Te.Cf} {M M' : Nat → Km} {ks oks : List Kc} {rs : List Kr} (hb : w1.heap.size ≤ base) (hB : Both w w1.heap.size base b ob p C n nJ M M' ks oks rs) (h : Fr (fun _ => False) w1 w) (f : Fr (Jf p rs) w w2) : Fr (fun _ => False) w1 w2 := h.trans f fun q hq hS => by have := hB.jlo hS; omega
theorem enters_new (args : Array Value) (w : World) : (callFunc 13 args).run Try.prog w = .ok (.enter 13 args) w := by
  have h := Try.func13
  go_simp
theorem enters_jnew (args : Array Value) (w : World) : (callFunc 14 args).run Try.prog w = .ok (.enter 14 args) w := by
  have h := Try.func14
  go_simp
set_option maxHeartbeats 8000000 in
set_option maxRecDepth 100000 in
theorem takes_walk {C : Te.Cf} {w : World} (hC : C.Ok w) (hs : Small C) {A : Option Addr} {cap : Nat} {l : List Cw} (hl : Comes w A l) (_hcap : l.length ≤ cap) (hll : l.length ≤ 1048576) (hlx : ∀ t ∈ l, t.x.size ≤ 1048576) (hnow : ∀ t ∈ l, t.now ≤ 9223372036854775807) :
    Calls Try.prog 4 #[C.val, .slice A l.length cap] w fun e w' => e = .returned (.bool true) ∧ Fr (fun _ => False) w w' := by
  have KL := fun W => lives_any W
  have KNW := fun (W : World) (k : C.Ok W) => new_any k
  have KJW := fun (W : World) => jnew_any (C := C) (w := W)
  unfold Te.Cf.val Te.Cf.cells at *
  have ib := Is.new w 30 C.arr
  have fb := (Fr.refl (fun _ => False) w).alloc (.cells C.arr 30)
  unfold Te.Cf.arr at *
  go_enter Try.func4, Try.ntmps4
  go_wp2_with fail
  generalize w.alloc _ = w0 at *
  have HB := Lib.hid ib
  have F0 := Lib.hid fb
  clear ib fb
  refine (KL _).mono ?_
  rintro e w1 ⟨rfl, f1⟩
  have HB1 := Lib.hid (HB.out.fr f1 id)
  have F1 := Lib.hid (fr_nil F0.out f1)
  have HLT : Hid (w.heap.size < w1.heap.size) := Lib.hid HB1.out.lt
  clear KL f1 HB F0
  go_upto_region 3 with fail
  go_cut [5, 6, 7] from 3 (fun v5 v6 v7 wx => ∃ (base b ob : Nat) (p : Jp) (ks oks : List Kc) (rs : List Kr), v5 = .pointer (some ⟨b, 0, none⟩) ∧ v6 = .pointer (some ⟨p.b, 0, none⟩) ∧ v7 = .pointer (some ⟨ob, 0, none⟩) ∧ Both wx w1.heap.size base b ob p C 0 0 (M0 C) (M0 C) ks oks rs ∧ Fr (fun _ => False) w1 wx)
  case first =>
    have s0 := Te.nine_cells (Is.drew HB1.out)
    have KN1 := KNW w1.drew (hC.fr F1.out.drew)
    go_region_law (first
      | (refine step_calln rfl 13 #[.tmp 18] #[30] rfl enters_new #[.agg #[.slice C.A1 C.l.length C.c1, .slice C.A2 C.n2 C.c2, .slice C.A3 C.sg.length C.c3, .slice C.A4 C.cr.length C.c4, .slice C.A5 C.n5 C.c5, .int .i64 C.t.age, .int .i64 C.t.brake, .int .i64 C.t.hold, .int .i64 C.t.budget]] (by simp [Act.eval]) (KN1.mono ?_); rintro e wA ⟨b, ks, rfl, a1, a2, a3, a4, a5, fA⟩; refine ⟨_, rfl, ?_⟩; have KJ2 := KJW wA; have s0A := Te.nine_cells ((Is.drew HB1.out).fr fA id); clear KN1)
      | (refine step_calln rfl 14 #[.tmp 20] #[30] rfl enters_jnew #[.agg #[.slice C.A1 C.l.length C.c1, .slice C.A2 C.n2 C.c2, .slice C.A3 C.sg.length C.c3, .slice C.A4 C.cr.length C.c4, .slice C.A5 C.n5 C.c5, .int .i64 C.t.age, .int .i64 C.t.brake, .int .i64 C.t.hold, .int .i64 C.t.budget]] (by simp [Act.eval]) (KJ2.mono ?_); rintro e wB ⟨bj, vR, vS, vZ, rbs, rfl, b1, b2, fB⟩; refine ⟨_, rfl, ?_⟩; have KN3 := KNW wB (hC.fr (fr_nil (fr_nil F1.out.drew fA) fB)); have s0B := Te.nine_cells (((Is.drew HB1.out).fr fA id).fr fB id); clear KJ2)
      | (refine step_calln rfl 13 #[.tmp 22] #[30] rfl enters_new #[.agg #[.slice C.A1 C.l.length C.c1, .slice C.A2 C.n2 C.c2, .slice C.A3 C.sg.length C.c3, .slice C.A4 C.cr.length C.c4, .slice C.A5 C.n5 C.c5, .int .i64 C.t.age, .int .i64 C.t.brake, .int .i64 C.t.hold, .int .i64 C.t.budget]] (by simp [Act.eval]) (KN3.mono ?_); rintro e wC ⟨ob, oks, rfl, c1, c2, c3, c4, c5, fC⟩; refine ⟨_, rfl, ?_⟩; clear KN3))
    all_goals
      obtain ⟨p, rs, hp, hB⟩ := both_new (fA.size : w1.heap.size ≤ _) a1 a2 a3 a4 (fun k hk => (a5 k hk).2) b1 b2 fB c1 c2 c3 c4 c5 fC
      subst hp
      have HBO := Lib.hid hB
      have HFC := Lib.hid (fr_nil (fr_nil (fr_nil (Fr.refl (fun _ => False) w1).drew fA) fB) fC)
      clear hB fA fB fC a1 a2 a3 a4 a5 b1 b2 c1 c2 c3 c4 c5 s0 s0A s0B
      go_wp2_with fail
      go_meet
      case rel => exact ⟨_, _, _, _, _, _, _, rfl, rfl, rfl, HBO.out, HFC.out⟩
  case rest =>
    obtain ⟨base, b, ob, p, ks0, oks0, rs0, rfl, rfl, rfl, hB, fc⟩ := hcut
    have HC1 := Lib.hid (hC.fr F1.out)
    have HL := Lib.hid hl
    have HF1 := F1
    have HBO := Lib.hid hB
    have HFC := Lib.hid fc
    have HBS : Hid (w1.heap.size ≤ base) := Lib.hid hB.hz
    clear hB fc HB1 F1 HLT KNW KJW
    go_wp2_with fail
    go_loopw [26] (fun v26 wr => ∃ (n : Nat) (M : Nat → Km) (ks oks : List Kc) (rs : List Kr), n ≤ l.length ∧ v26 = .int .i64 (n : Nat) ∧ Both wr w1.heap.size base b ob p C n n M M ks oks rs ∧ Fr (fun _ => False) w1 wr) (fun v _ => l.length - (intOf v).toNat)
    case atStart => exact ⟨0, _, _, _, _, Nat.zero_le _, rfl, HBO.out, HFC.out⟩
    case round =>
      clear HBO HFC
      obtain ⟨n, M, ks, oks, rs, hn, rfl, hB, fr⟩ := hrel
      by_cases hnl : n < l.length
      · have hni : (n : Int) < (l.length : Int) := by omega
        obtain ⟨g, o, hA, hg, hc⟩ := HL.out.fr (fr_nil HF1.out fr) (fun _ _ => id) (by omega)
        obtain ⟨c0, c1, c2⟩ := hc n hnl
        have hx := hlx _ (List.getElem_mem hnl)
        have hw := hnow _ (List.getElem_mem hnl)
        generalize l[n].now = now at *
        generalize l[n].oc = oc at *
        generalize l[n].x = x at *
        have fal := (Fr.refl (fun _ => False) wr).alloc (.cells #[.int .i64 now, .int .i64 oc, .string x] 48)
        have icb := Is.new wr 48 #[.int .i64 now, .int .i64 oc, .string x]
        obtain ⟨g0, g1, g2⟩ := Te.three6 icb
        obtain ⟨cb, hcb⟩ : ∃ cb, cb = wr.heap.size := ⟨_, rfl⟩
        rw [← hcb] at icb
        have hbase : base < cb := by
          have h1 := hB.jm.lo.1
          have h2 := hB.jm.is.lt
          omega
        have hjc : ∀ q, Jf p rs q → q < cb := fun q hq => by
          have := (Jf.lo hB.jm hq).2
          omega
        have HBO := Lib.hid (hB.fr0 fal)
        have HFR := Lib.hid (fr_nil fr fal)
        have HCB := Lib.hid icb
        have HJC := Lib.hid hjc
        clear hB fr hc icb hjc fal
        subst hA
        go_upto_region 7 with fail
        rw [← hcb]
        clear hcb c0 c1 c2 g0 g1 g2
        generalize wr.alloc _ = wa at *
        have hn6 : n ≤ 1048576 := by omega
        obtain ⟨MX, hMX⟩ : ∃ MX, stepM C M now oc (readL (bytesOf x)) = MX := ⟨_, rfl⟩
        obtain ⟨al, hal⟩ : ∃ al, alM C MX.1 now oc = al := ⟨_, rfl⟩
        obtain ⟨lo, hlo⟩ : ∃ lo, lostM MX.1 = lo := ⟨_, rfl⟩
        have K1 := prog_take (HBO.out.fr0 ((Fr.refl (fun _ => False) wa).drew)) hn6 now oc x hw
        rw [hMX] at K1
        obtain ⟨M1, x2⟩ := MX
        simp only at K1 hal hlo
        have i0 := Is.drew HCB.out
        have d0 := Te.three6 i0
        have qx : ((x2 : Int) != x2) = false := by simp
        have qa : (al != al) = false := by simp
        have ql : ((lo : Int) != lo) = false := by simp
        go_region_held3 (fun Wx => Wx.cell? ⟨cb, 0, none⟩ = some (.int .i64 now) ∧ Wx.cell? ⟨cb, 1, none⟩ = some (.int .i64 oc) ∧ Wx.cell? ⟨cb, 2, none⟩ = some (.string x)) (first | with_reducible exact d0 | with_reducible exact d1 | with_reducible exact d2 | with_reducible exact d3 | with_reducible exact d4 | with_reducible exact d5 | with_reducible exact d6) (first
          | (go_at_call 15; refine ((K1).mono ?_); rintro e u1 ⟨ks1, rfl, hB1, f1⟩; have i1 := i0.fr f1 (fun h => by omega); have g1 := fr_low HFR.out.drew f1; have d1 := Te.three6 i1; have K2 := ref_take hB1 HC1.out HBS.out g1 hn6 now oc x hw hx; rw [hMX] at K2; clear K1)
          | (go_at_call 16; refine ((K2).mono ?_); rintro e u2 ⟨rs2, rfl, hB2, f2⟩; have i2 := i1.fr f2 (fun h => by have := HJC.out _ h; omega); have g2 := fr_jf HBS.out hB1 g1 f2; have d2 := Te.three6 i2; have K3 := prog_alive hB2 now oc hw; rw [hal] at K3; clear K2)
          | (go_at_call 17; refine ((K3).mono ?_); rintro e u3 ⟨rfl, f3⟩; have hB3 := hB2.fr0 f3; have i3 := i2.fr f3 id; have g3 := fr_nil g2 f3; have d3 := Te.three6 i3; have K4 := ref_alive hB3 now oc hw; rw [hal] at K4; clear K3)
          | (go_at_call 18; refine ((K4).mono ?_); rintro e u4 ⟨rfl, f4⟩; have hB4 := hB3.fr0 f4; have i4 := i3.fr f4 id; have g4 := fr_nil g3 f4; have d4 := Te.three6 i4; have K5 := prog_lost hB4 (by omega); rw [hlo] at K5; clear K4)
          | (go_at_call 19; refine ((K5).mono ?_); rintro e u5 ⟨rfl, f5⟩; have hB5 := hB4.fr0 f5; have i5 := i4.fr f5 id; have g5 := fr_nil g4 f5; have d5 := Te.three6 i5; have K6 := ref_lost hB5 (by omega) (by omega); rw [hlo] at K6; clear K5)
          | (go_at_call 20; refine ((K6).mono ?_); rintro e u6 ⟨rfl, f6⟩; have hB6 := hB5.fr0 f6; have i6 := i5.fr f6 id; have g6 := fr_nil g5 f6; have d6 := Te.three6 i6; clear K6))
        rename_i hHeld
        have HBW := Lib.hid hB6
        have HFW := Lib.hid g6
        have HCW := Lib.hid i6
        clear hHeld d0 d1 d2 d3 d4 d5 d6 i0 i1 i2 i3 i4 i5 i6 g1 g2 g3 g4 g5 g6 hB1 hB2 hB3 hB4 hB5 hB6 f1 f2 f3 f4 f5 f6 qx qa ql hal hlo HBO HFR HCB HJC hMX
        obtain ⟨W, rfl⟩ : ∃ W, W = u6 := ⟨_, rfl⟩
        obtain ⟨V0, hV0⟩ : ∃ V, vOcc C now ks1 = V := ⟨_, rfl⟩
        obtain ⟨V1, hV1⟩ : ∃ V, vPos C now ks1 = V := ⟨_, rfl⟩
        obtain ⟨V2, hV2⟩ : ∃ V, vShut C now ks1 = V := ⟨_, rfl⟩
        obtain ⟨V3, hV3⟩ : ∃ V, vLamp C now ks1 = V := ⟨_, rfl⟩
        have HN : Hid (V0.length ≤ 1048576 ∧ V1.length ≤ 1048576 ∧ V2.length ≤ 1048576 ∧ V3.length ≤ 1048576) := Lib.hid (by
          have l0 := hs.l
          have l1 := hs.cr
          have l2 := hs.sg
          rw [← hV0, ← hV1, ← hV2, ← hV3]
          simp only [viewK_length, worstL_length]
          exact ⟨l0, l0, l1, l2⟩)
        go_wp2_with fail
        · refine region_lateD 15 [69, 70, 71, 72, 73, 74, 75, 76, 77, 78, 79, 80, 10, 11, 12] [(69, .val (.pointer (some ⟨b, 0, none⟩))), (70, .val (.pointer (some ⟨cb, 0, none⟩))), (71, .val (.int .i64 now)), (73, .val (.pointer (some ⟨b, 0, none⟩))), (74, .val (.pointer (some ⟨cb, 0, none⟩))), (75, .val (.int .i64 now)), (77, .val (.pointer (some ⟨p.b, 0, none⟩))), (78, .val (.pointer (some ⟨cb, 0, none⟩))), (79, .val (.int .i64 now)), (72, spA W.heap.size V0 V1 V2 V3), (76, spA W.heap.size V0 V1 V2 V3), (80, spJ W.heap.size V0 V1 V2 V3), (10, .box W.heap.size 55 #[.slice none 0 0, .slice none 0 0, .slice none 0 0, .slice none 0 0]), (11, .box W.heap.size 55 #[.slice none 0 0, .slice none 0 0, .slice none 0 0, .slice none 0 0]), (12, .box W.heap.size 55 #[.slice none 0 0, .slice none 0 0, .slice none 0 0, .slice none 0 0])] apart9 foot9 (by kernel_rfl) (by kernel_rfl) (by kernel_rfl) ?_ (by kernel_rfl) (by kernel_rfl) (by kernel_rfl) (by decide) (by kernel_rfl) (by kernel_rfl) (by kernel_rfl) ?_ ?_
          · intro pp hp v9 w9 hv q9 hb
            rcases case9 hp with rfl | rfl | rfl | rfl | rfl | rfl
            · exact (spA_foot (hv : (spA W.heap.size V0 V1 V2 V3).p v9 w9) (by decide) hb).2
            · exact (spA_foot (hv : (spA W.heap.size V0 V1 V2 V3).p v9 w9) (by decide) hb).2
            · exact (spJ_foot (hv : (spJ W.heap.size V0 V1 V2 V3).p v9 w9) (by decide) hb).2
            all_goals exact (box_foot (hv : (Sp.box W.heap.size 55 #[.slice none 0 0, .slice none 0 0, .slice none 0 0, .slice none 0 0]).p v9 w9) (by decide) hb).2
          · intro i9 o9 ho him listed
            have hcase : i9 = 0 ∨ i9 = 1 ∨ i9 = 2 ∨ i9 = 3 ∨ i9 = 4 ∨ i9 = 5 ∨ i9 = 6 ∨ i9 = 7 ∨ i9 = 8 ∨ i9 = 9 ∨ i9 = 10 ∨ i9 = 11 ∨ i9 = 12 ∨ i9 = 13 ∨ i9 = 14 := by omega
            clear him
            rcases hcase with rfl | rfl | rfl | rfl | rfl | rfl | rfl | rfl | rfl | rfl | rfl | rfl | rfl | rfl | rfl <;> (injection ho with ho; subst ho; intro a' w' _ hf _ hl)
            · have e2 : a'.eval (.tmp 5) = .pointer (some ⟨b, 0, none⟩) := hl 5 (by decide)
              refine l_of rfl (v := .pointer (some ⟨b, 0, none⟩)) (w' := w') (by clear hl; revert e2; generalize a'.eval = ev; intro e2; go_simp) (putD (Fr.refl _ _) (no9 (by decide)) rfl)
            · have e2 : a'.eval (.tmp 9) = .pointer (some ⟨cb, 0, none⟩) := hl 9 (by decide)
              refine l_of rfl (v := .pointer (some ⟨cb, 0, none⟩)) (w' := w') (by clear hl; revert e2; generalize a'.eval = ev; intro e2; go_simp) (putD (Fr.refl _ _) (no9 (by decide)) rfl)
            · have e2 : a'.eval (.tmp 70) = .pointer (some ⟨cb, 0, none⟩) := hl 70 (by decide)
              have cc := (Te.three6 (Is.fr (S := fun _ => False) (Is.drew HCW.out) hf id)).1
              refine l_of rfl (v := .int .i64 now) (w' := w') (by clear hl; revert e2; generalize a'.eval = ev; intro e2; go_simp) (putD (Fr.refl _ _) (no9 (by decide)) rfl)
            · have e1 : a'.eval (.tmp 69) = .pointer (some ⟨b, 0, none⟩) := hl 69 (by decide)
              have e2 : a'.eval (.tmp 71) = .int .i64 now := hl 71 (by decide)
              have KV := prog_view (HBW.out.fr0 ((Fr.refl (fun _ => False) W).drew.trans hf fun _ _ h => h)) hs now hw
              rw [hV0, hV1, hV2, hV3] at KV
              refine Te.l_call2 enters_view e1 e2 (KV.mono fun e w'' ⟨v9, he, hp9, f9⟩ => ⟨_, he, putD f9 (fun pp hp hpi q9 hb => ?_) (spA_low hf.size hp9)⟩)
              rcases case9 hp with rfl | rfl | rfl | rfl | rfl | rfl <;> first
                | exact absurd hpi (by decide)
                | exact (spA_foot hp9 (by decide) hb).1
            · have e2 : a'.eval (.tmp 5) = .pointer (some ⟨b, 0, none⟩) := hl 5 (by decide)
              refine l_of rfl (v := .pointer (some ⟨b, 0, none⟩)) (w' := w') (by clear hl; revert e2; generalize a'.eval = ev; intro e2; go_simp) (putD (Fr.refl _ _) (no9 (by decide)) rfl)
            · have e2 : a'.eval (.tmp 9) = .pointer (some ⟨cb, 0, none⟩) := hl 9 (by decide)
              refine l_of rfl (v := .pointer (some ⟨cb, 0, none⟩)) (w' := w') (by clear hl; revert e2; generalize a'.eval = ev; intro e2; go_simp) (putD (Fr.refl _ _) (no9 (by decide)) rfl)
            · have e2 : a'.eval (.tmp 74) = .pointer (some ⟨cb, 0, none⟩) := hl 74 (by decide)
              have cc := (Te.three6 (Is.fr (S := fun _ => False) (Is.drew HCW.out) hf id)).1
              refine l_of rfl (v := .int .i64 now) (w' := w') (by clear hl; revert e2; generalize a'.eval = ev; intro e2; go_simp) (putD (Fr.refl _ _) (no9 (by decide)) rfl)
            · have e1 : a'.eval (.tmp 73) = .pointer (some ⟨b, 0, none⟩) := hl 73 (by decide)
              have e2 : a'.eval (.tmp 75) = .int .i64 now := hl 75 (by decide)
              have KV := prog_view (HBW.out.fr0 ((Fr.refl (fun _ => False) W).drew.trans hf fun _ _ h => h)) hs now hw
              rw [hV0, hV1, hV2, hV3] at KV
              refine Te.l_call2 enters_view e1 e2 (KV.mono fun e w'' ⟨v9, he, hp9, f9⟩ => ⟨_, he, putD f9 (fun pp hp hpi q9 hb => ?_) (spA_low hf.size hp9)⟩)
              rcases case9 hp with rfl | rfl | rfl | rfl | rfl | rfl <;> first
                | exact absurd hpi (by decide)
                | exact (spA_foot hp9 (by decide) hb).1
            · have e2 : a'.eval (.tmp 6) = .pointer (some ⟨p.b, 0, none⟩) := hl 6 (by decide)
              refine l_of rfl (v := .pointer (some ⟨p.b, 0, none⟩)) (w' := w') (by clear hl; revert e2; generalize a'.eval = ev; intro e2; go_simp) (putD (Fr.refl _ _) (no9 (by decide)) rfl)
            · have e2 : a'.eval (.tmp 9) = .pointer (some ⟨cb, 0, none⟩) := hl 9 (by decide)
              refine l_of rfl (v := .pointer (some ⟨cb, 0, none⟩)) (w' := w') (by clear hl; revert e2; generalize a'.eval = ev; intro e2; go_simp) (putD (Fr.refl _ _) (no9 (by decide)) rfl)
            · have e2 : a'.eval (.tmp 78) = .pointer (some ⟨cb, 0, none⟩) := hl 78 (by decide)
              have cc := (Te.three6 (Is.fr (S := fun _ => False) (Is.drew HCW.out) hf id)).1
              refine l_of rfl (v := .int .i64 now) (w' := w') (by clear hl; revert e2; generalize a'.eval = ev; intro e2; go_simp) (putD (Fr.refl _ _) (no9 (by decide)) rfl)
            · have e1 : a'.eval (.tmp 77) = .pointer (some ⟨p.b, 0, none⟩) := hl 77 (by decide)
              have e2 : a'.eval (.tmp 79) = .int .i64 now := hl 79 (by decide)
              have KV := ref_view (HBW.out.fr0 ((Fr.refl (fun _ => False) W).drew.trans hf fun _ _ h => h)) (HC1.out.fr (fr_nil HFW.out ((Fr.refl (fun _ => False) W).drew.trans hf fun _ _ h => h))) hs now hw
              rw [hV0, hV1, hV2, hV3] at KV
              refine Te.l_call2 enters_jview e1 e2 (KV.mono fun e w'' ⟨v9, he, hp9, f9⟩ => ⟨_, he, putD f9 (fun pp hp hpi q9 hb => ?_) (spJ_low hf.size hp9)⟩)
              rcases case9 hp with rfl | rfl | rfl | rfl | rfl | rfl <;> first
                | exact absurd hpi (by decide)
                | exact (spJ_foot hp9 (by decide) hb).1
            · refine l_of rfl (v := .pointer (some ⟨w'.heap.size, 0, none⟩)) (w' := w'.alloc (.cells #[.slice none 0 0, .slice none 0 0, .slice none 0 0, .slice none 0 0] 55)) (by clear hl; generalize a'.eval = ev; go_simp) (putD ((Fr.refl _ _).alloc _) (fun pp hp hpi q9 hb => ?_) ⟨_, rfl, Is.new _ _ _, hf.size⟩)
              rcases case9 hp with rfl | rfl | rfl | rfl | rfl | rfl <;> first
              | exact absurd hpi (by decide)
              | exact (box_foot (z := w'.heap.size) ⟨_, rfl, Is.new w' 55 #[.slice none 0 0, .slice none 0 0, .slice none 0 0, .slice none 0 0], Nat.le_refl _⟩ (by decide) hb).1
            · refine l_of rfl (v := .pointer (some ⟨w'.heap.size, 0, none⟩)) (w' := w'.alloc (.cells #[.slice none 0 0, .slice none 0 0, .slice none 0 0, .slice none 0 0] 55)) (by clear hl; generalize a'.eval = ev; go_simp) (putD ((Fr.refl _ _).alloc _) (fun pp hp hpi q9 hb => ?_) ⟨_, rfl, Is.new _ _ _, hf.size⟩)
              rcases case9 hp with rfl | rfl | rfl | rfl | rfl | rfl <;> first
              | exact absurd hpi (by decide)
              | exact (box_foot (z := w'.heap.size) ⟨_, rfl, Is.new w' 55 #[.slice none 0 0, .slice none 0 0, .slice none 0 0, .slice none 0 0], Nat.le_refl _⟩ (by decide) hb).1
            · refine l_of rfl (v := .pointer (some ⟨w'.heap.size, 0, none⟩)) (w' := w'.alloc (.cells #[.slice none 0 0, .slice none 0 0, .slice none 0 0, .slice none 0 0] 55)) (by clear hl; generalize a'.eval = ev; go_simp) (putD ((Fr.refl _ _).alloc _) (fun pp hp hpi q9 hb => ?_) ⟨_, rfl, Is.new _ _ _, hf.size⟩)
              rcases case9 hp with rfl | rfl | rfl | rfl | rfl | rfl <;> first
              | exact absurd hpi (by decide)
              | exact (box_foot (z := w'.heap.size) ⟨_, rfl, Is.new w' 55 #[.slice none 0 0, .slice none 0 0, .slice none 0 0, .slice none 0 0], Nat.le_refl _⟩ (by decide) hb).1
          · intro val w' hf hdis hT
            obtain ⟨ga0, ga1, ga2, ga3, e72, ⟨ia0, ia1, ia2, ia3⟩, na0, na1, na2, na3⟩ := (hT 72 (by decide) : (spA W.heap.size V0 V1 V2 V3).p _ _)
            obtain ⟨gh0, gh1, gh2, gh3, e76, ⟨ih0, ih1, ih2, ih3⟩, nh0, nh1, nh2, nh3⟩ := (hT 76 (by decide) : (spA W.heap.size V0 V1 V2 V3).p _ _)
            obtain ⟨X0, X1, X2, X3, k0, k1, k2, k3, e80, r80, n80⟩ := (hT 80 (by decide) : (spJ W.heap.size V0 V1 V2 V3).p _ _)
            obtain ⟨b10, e10, i10, n10⟩ := (hT 10 (by decide) : (Sp.box _ _ _).p _ _)
            obtain ⟨b11, e11, i11, n11⟩ := (hT 11 (by decide) : (Sp.box _ _ _).p _ _)
            obtain ⟨b12, e12, i12, n12⟩ := (hT 12 (by decide) : (Sp.box _ _ _).p _ _)
            have hd : ∀ pp ∈ apart9, ∀ qq ∈ apart9, pp.2 ≠ qq.2 → ∀ q, foot9 pp.2 (val pp.2) q → ¬ foot9 qq.2 (val qq.2) q := fun pp hp qq hq hne q => by
              have h := hdis pp hp qq hq hne q
              rw [Te.laid_eval _ (mem9 pp hp).1 (Nat.lt_of_lt_of_eq (mem9 pp hp).2 rfl), Te.laid_eval _ (mem9 qq hq).1 (Nat.lt_of_lt_of_eq (mem9 qq hq).2 rfl)] at h
              exact h
            clear hdis hT
            have dah : ∀ q, (Bq (some ⟨ga0, 0, none⟩) (some ⟨ga1, 0, none⟩) (some ⟨ga2, 0, none⟩) (some ⟨ga3, 0, none⟩) q) → ¬ (Bq (some ⟨gh0, 0, none⟩) (some ⟨gh1, 0, none⟩) (some ⟨gh2, 0, none⟩) (some ⟨gh3, 0, none⟩) q) := fun q h k => hd (3, 72) (by decide) (7, 76) (by decide) (by decide) q (show foot9 72 (val 72) q by rw [e72]; exact (foot9_v (by decide)).2 (footV_iff.2 h)) (show foot9 76 (val 76) q by rw [e76]; exact (foot9_v (by decide)).2 (footV_iff.2 k))
            have dax : ∀ q, (Bq (some ⟨ga0, 0, none⟩) (some ⟨ga1, 0, none⟩) (some ⟨ga2, 0, none⟩) (some ⟨ga3, 0, none⟩) q) → ¬ (Bq X0 X1 X2 X3 q) := fun q h k => hd (3, 72) (by decide) (11, 80) (by decide) (by decide) q (show foot9 72 (val 72) q by rw [e72]; exact (foot9_v (by decide)).2 (footV_iff.2 h)) (show foot9 80 (val 80) q by rw [e80]; exact (foot9_v (by decide)).2 (footV_iff.2 k))
            have da10 : ∀ q, (Bq (some ⟨ga0, 0, none⟩) (some ⟨ga1, 0, none⟩) (some ⟨ga2, 0, none⟩) (some ⟨ga3, 0, none⟩) q) → q ≠ b10 := fun q h k => hd (3, 72) (by decide) (12, 10) (by decide) (by decide) q (show foot9 72 (val 72) q by rw [e72]; exact (foot9_v (by decide)).2 (footV_iff.2 h)) (show foot9 10 (val 10) q by rw [e10]; exact (foot9_b (by decide)).2 (by rw [k]))
            have da11 : ∀ q, (Bq (some ⟨ga0, 0, none⟩) (some ⟨ga1, 0, none⟩) (some ⟨ga2, 0, none⟩) (some ⟨ga3, 0, none⟩) q) → q ≠ b11 := fun q h k => hd (3, 72) (by decide) (13, 11) (by decide) (by decide) q (show foot9 72 (val 72) q by rw [e72]; exact (foot9_v (by decide)).2 (footV_iff.2 h)) (show foot9 11 (val 11) q by rw [e11]; exact (foot9_b (by decide)).2 (by rw [k]))
            have da12 : ∀ q, (Bq (some ⟨ga0, 0, none⟩) (some ⟨ga1, 0, none⟩) (some ⟨ga2, 0, none⟩) (some ⟨ga3, 0, none⟩) q) → q ≠ b12 := fun q h k => hd (3, 72) (by decide) (14, 12) (by decide) (by decide) q (show foot9 72 (val 72) q by rw [e72]; exact (foot9_v (by decide)).2 (footV_iff.2 h)) (show foot9 12 (val 12) q by rw [e12]; exact (foot9_b (by decide)).2 (by rw [k]))
            have dh10 : ∀ q, (Bq (some ⟨gh0, 0, none⟩) (some ⟨gh1, 0, none⟩) (some ⟨gh2, 0, none⟩) (some ⟨gh3, 0, none⟩) q) → q ≠ b10 := fun q h k => hd (7, 76) (by decide) (12, 10) (by decide) (by decide) q (show foot9 76 (val 76) q by rw [e76]; exact (foot9_v (by decide)).2 (footV_iff.2 h)) (show foot9 10 (val 10) q by rw [e10]; exact (foot9_b (by decide)).2 (by rw [k]))
            have dh11 : ∀ q, (Bq (some ⟨gh0, 0, none⟩) (some ⟨gh1, 0, none⟩) (some ⟨gh2, 0, none⟩) (some ⟨gh3, 0, none⟩) q) → q ≠ b11 := fun q h k => hd (7, 76) (by decide) (13, 11) (by decide) (by decide) q (show foot9 76 (val 76) q by rw [e76]; exact (foot9_v (by decide)).2 (footV_iff.2 h)) (show foot9 11 (val 11) q by rw [e11]; exact (foot9_b (by decide)).2 (by rw [k]))
            have dh12 : ∀ q, (Bq (some ⟨gh0, 0, none⟩) (some ⟨gh1, 0, none⟩) (some ⟨gh2, 0, none⟩) (some ⟨gh3, 0, none⟩) q) → q ≠ b12 := fun q h k => hd (7, 76) (by decide) (14, 12) (by decide) (by decide) q (show foot9 76 (val 76) q by rw [e76]; exact (foot9_v (by decide)).2 (footV_iff.2 h)) (show foot9 12 (val 12) q by rw [e12]; exact (foot9_b (by decide)).2 (by rw [k]))
            have dx10 : ∀ q, (Bq X0 X1 X2 X3 q) → q ≠ b10 := fun q h k => hd (11, 80) (by decide) (12, 10) (by decide) (by decide) q (show foot9 80 (val 80) q by rw [e80]; exact (foot9_v (by decide)).2 (footV_iff.2 h)) (show foot9 10 (val 10) q by rw [e10]; exact (foot9_b (by decide)).2 (by rw [k]))
            have dx11 : ∀ q, (Bq X0 X1 X2 X3 q) → q ≠ b11 := fun q h k => hd (11, 80) (by decide) (13, 11) (by decide) (by decide) q (show foot9 80 (val 80) q by rw [e80]; exact (foot9_v (by decide)).2 (footV_iff.2 h)) (show foot9 11 (val 11) q by rw [e11]; exact (foot9_b (by decide)).2 (by rw [k]))
            have dx12 : ∀ q, (Bq X0 X1 X2 X3 q) → q ≠ b12 := fun q h k => hd (11, 80) (by decide) (14, 12) (by decide) (by decide) q (show foot9 80 (val 80) q by rw [e80]; exact (foot9_v (by decide)).2 (footV_iff.2 h)) (show foot9 12 (val 12) q by rw [e12]; exact (foot9_b (by decide)).2 (by rw [k]))
            have d1011 : b10 ≠ b11 := fun k => hd (12, 10) (by decide) (13, 11) (by decide) (by decide) b10 (show foot9 10 (val 10) b10 by rw [e10]; exact (foot9_b (by decide)).2 (rfl)) (show foot9 11 (val 11) b10 by rw [e11]; exact (foot9_b (by decide)).2 (by rw [k]))
            have d1012 : b10 ≠ b12 := fun k => hd (12, 10) (by decide) (14, 12) (by decide) (by decide) b10 (show foot9 10 (val 10) b10 by rw [e10]; exact (foot9_b (by decide)).2 (rfl)) (show foot9 12 (val 12) b10 by rw [e12]; exact (foot9_b (by decide)).2 (by rw [k]))
            have d1112 : b11 ≠ b12 := fun k => hd (13, 11) (by decide) (14, 12) (by decide) (by decide) b11 (show foot9 11 (val 11) b11 by rw [e11]; exact (foot9_b (by decide)).2 (rfl)) (show foot9 12 (val 12) b11 by rw [e12]; exact (foot9_b (by decide)).2 (by rw [k]))
            clear hd
            simp only [laidL, List.foldl_cons, List.foldl_nil, e72, e76, e80, e10, e11, e12]
            generalize val 69 = q69; generalize val 70 = q70; generalize val 71 = q71; generalize val 73 = q73; generalize val 74 = q74; generalize val 75 = q75; generalize val 77 = q77; generalize val 78 = q78; generalize val 79 = q79
            simp only [List.setIfInBounds_toArray, List.set_cons_succ, List.set_cons_zero]
            obtain ⟨m0, m1, m2, m3⟩ := Te.four_cells i10
            have z0 := i10.frozen 0
            have z1 := i10.frozen 1
            have z2 := i10.frozen 2
            have z3 := i10.frozen 3
            have is10 := Te.put4_is i10 (.slice (some ⟨ga0, 0, none⟩) V0.length V0.length) (.slice (some ⟨ga1, 0, none⟩) V1.length V1.length) (.slice (some ⟨ga2, 0, none⟩) V2.length V2.length) (.slice (some ⟨ga3, 0, none⟩) V3.length V3.length)
            have fs10 := Te.put4_fr w' b10 (.slice (some ⟨ga0, 0, none⟩) V0.length V0.length) (.slice (some ⟨ga1, 0, none⟩) V1.length V1.length) (.slice (some ⟨ga2, 0, none⟩) V2.length V2.length) (.slice (some ⟨ga3, 0, none⟩) V3.length V3.length)
            refine tail1s (n := 2) rfl rfl rfl (w' := Te.World.put4 w' b10 (.slice (some ⟨ga0, 0, none⟩) V0.length V0.length) (.slice (some ⟨ga1, 0, none⟩) V1.length V1.length) (.slice (some ⟨ga2, 0, none⟩) V2.length V2.length) (.slice (some ⟨ga3, 0, none⟩) V3.length V3.length)) (by unfold Te.World.put4; go_simp) ?_
            clear m0 m1 m2 m3 z0 z1 z2 z3
            generalize Te.World.put4 w' b10 _ _ _ _ = W1 at *
            have i11 := i11.fr fs10 (fun e => d1011 e.symm)
            have i12 := i12.fr fs10 (fun e => d1012 e.symm)
            obtain ⟨m0, m1, m2, m3⟩ := Te.four_cells i11
            have z0 := i11.frozen 0
            have z1 := i11.frozen 1
            have z2 := i11.frozen 2
            have z3 := i11.frozen 3
            have is11 := Te.put4_is i11 (.slice (some ⟨gh0, 0, none⟩) V0.length V0.length) (.slice (some ⟨gh1, 0, none⟩) V1.length V1.length) (.slice (some ⟨gh2, 0, none⟩) V2.length V2.length) (.slice (some ⟨gh3, 0, none⟩) V3.length V3.length)
            have fs11 := Te.put4_fr W1 b11 (.slice (some ⟨gh0, 0, none⟩) V0.length V0.length) (.slice (some ⟨gh1, 0, none⟩) V1.length V1.length) (.slice (some ⟨gh2, 0, none⟩) V2.length V2.length) (.slice (some ⟨gh3, 0, none⟩) V3.length V3.length)
            refine tail1s (n := 1) rfl rfl rfl (w' := Te.World.put4 W1 b11 (.slice (some ⟨gh0, 0, none⟩) V0.length V0.length) (.slice (some ⟨gh1, 0, none⟩) V1.length V1.length) (.slice (some ⟨gh2, 0, none⟩) V2.length V2.length) (.slice (some ⟨gh3, 0, none⟩) V3.length V3.length)) (by unfold Te.World.put4; go_simp) ?_
            clear m0 m1 m2 m3 z0 z1 z2 z3
            generalize Te.World.put4 W1 b11 _ _ _ _ = W2 at *
            have i12 := i12.fr fs11 (fun e => d1112 e.symm)
            obtain ⟨m0, m1, m2, m3⟩ := Te.four_cells i12
            have z0 := i12.frozen 0
            have z1 := i12.frozen 1
            have z2 := i12.frozen 2
            have z3 := i12.frozen 3
            have is12 := Te.put4_is i12 (.slice X0 V0.length k0) (.slice X1 V1.length k1) (.slice X2 V2.length k2) (.slice X3 V3.length k3)
            have fs12 := Te.put4_fr W2 b12 (.slice X0 V0.length k0) (.slice X1 V1.length k1) (.slice X2 V2.length k2) (.slice X3 V3.length k3)
            refine tail1 rfl rfl rfl (w' := Te.World.put4 W2 b12 (.slice X0 V0.length k0) (.slice X1 V1.length k1) (.slice X2 V2.length k2) (.slice X3 V3.length k3)) (by unfold Te.World.put4; go_simp) ?_
            clear m0 m1 m2 m3 z0 z1 z2 z3
            generalize Te.World.put4 W2 b12 _ _ _ _ = W3 at *
            have F9 := fr3 fs10 fs11 fs12
            have I10 := (is10.fr fs11 d1011).fr fs12 d1012
            have I11 := is11.fr fs12 d1112
            have wl := (Wl4.of ia0 ia1 ia2 ia3).fr F9 (ne3 da10 da11 da12)
            have rh := (R4.of ih0 ih1 ih2 ih3).fr1 F9 (ne3 dh10 dh11 dh12)
            have rx := r80.fr1 F9 (ne3 dx10 dx11 dx12)
            have FF := fr9 hf F9 n10 n11 n12
            have hin := Bq_in (z := W.heap.size) (w' := W3) ia0 ia1 ia2 ia3 na0 na1 na2 na3 F9.size
            have hcut : ∃ (P : Nat → Prop) (Y0 Y1 Y2 Y3 Z0 Z1 Z2 Z3 X0 X1 X2 X3 : Option Addr) (y0 y1 y2 y3 z0 z1 z2 z3 k0 k1 k2 k3 : Nat), Is W3 b10 55 #[.slice Y0 V0.length y0, .slice Y1 V1.length y1, .slice Y2 V2.length y2, .slice Y3 V3.length y3] ∧ Wl4 W3 P Y0 Y1 Y2 Y3 V0 V1 V2 V3 ∧ Fx W3 P b11 Z0 Z1 Z2 Z3 z0 z1 z2 z3 V0 V1 V2 V3 ∧ Fx W3 P b12 X0 X1 X2 X3 k0 k1 k2 k3 V0 V1 V2 V3 ∧ (∀ q, P q → W.heap.size ≤ q ∧ q < W3.heap.size) ∧ Fr (fun _ => False) W W3 := ⟨(Bq (some ⟨ga0, 0, none⟩) (some ⟨ga1, 0, none⟩) (some ⟨ga2, 0, none⟩) (some ⟨ga3, 0, none⟩)), _, _, _, _, _, _, _, _, _, _, _, _, _, _, _, _, _, _, _, _, _, _, _, _, I10, wl, ⟨I11, rh, fun q h k => dah q k h, fun h => da11 _ h rfl⟩, ⟨is12, rx, fun q h k => dax q k h, fun h => da12 _ h rfl⟩, hin, FF⟩
            clear hf e72 e76 e80 e10 e11 e12 i10 i11 i12 is10 is11 is12 fs10 fs11 fs12 ia0 ia1 ia2 ia3 ih0 ih1 ih2 ih3 r80 n80 F9 HCW I10 I11 wl rh rx hin FF na0 na1 na2 na3 nh0 nh1 nh2 nh3 n10 n11 n12 dah dax da10 da11 da12 dh10 dh11 dh12 dx10 dx11 dx12 d1011 d1012 d1112
            obtain ⟨wc, rfl⟩ : ∃ wc, wc = W3 := ⟨_, rfl⟩
            obtain ⟨P, Y0, Y1, Y2, Y3, Z0, Z1, Z2, Z3, X0, X1, X2, X3, y0, y1, y2, y3, z0, z1, z2, z3, k0, k1, k2, k3, I10, wl, FB, FX, hin, ff⟩ := hcut
            obtain ⟨m0, m1, m2, m3⟩ := Te.four_cells I10
            have fal := (Fr.refl (fun _ => False) wc).alloc (.cells #[.slice Y0 V0.length y0, .slice Y1 V1.length y1, .slice Y2 V2.length y2, .slice Y3 V3.length y3] 53)
            have IL := Lib.hid (Is.new wc 53 #[.slice Y0 V0.length y0, .slice Y1 V1.length y1, .slice Y2 V2.length y2, .slice Y3 V3.length y3])
            have HNP : Hid (¬ P wc.heap.size) := Lib.hid fun h => by have := (hin _ h).2; omega
            have HPW : Hid (∀ q, P q → W.heap.size ≤ q) := Lib.hid fun q h => (hin q h).1
            have HWL := Lib.hid (wl.fr fal fun _ _ => id)
            have HFB := Lib.hid (FB.fr fal fun _ h => h.elim)
            have HFX := Lib.hid (FX.fr fal fun _ h => h.elim)
            have HFF := Lib.hid (fr_nil ff fal)
            clear wl FB FX hin ff fal I10
            go_wp2_with fail
            clear m0 m1 m2 m3
            obtain ⟨ib, hib⟩ : ∃ ib, ib = wc.heap.size := ⟨_, rfl⟩
            rw [← hib] at IL HNP ⊢
            clear hib
            generalize wc.alloc _ = wd at *
            go_loopw [91] (fun v91 wr => ∃ i : Nat, i ≤ 4 ∧ v91 = .int .i64 (i : Nat) ∧ Wl4 wr P Y0 Y1 Y2 Y3 V0 V1 V2 V3 ∧ Fr P wd wr) (fun v _ => 4 - (intOf v).toNat)
            case atStart => exact ⟨0, by omega, rfl, HWL.out, Fr.refl _ _⟩
            case round =>
              clear HWL
              obtain ⟨i, hi, rfl, hwl, fr⟩ := hrel
              by_cases h4 : i < 4
              · have hi4 : (i : Int) < 4 := by omega
                obtain ⟨Q, nq, cq, hcell, hwp, hnq⟩ : ∃ Q nq cq, wr.cell? ⟨ib, i, none⟩ = some (.slice Q nq cq) ∧ Wl wr P Q nq ∧ nq ≤ 1048576 := by
                  have il := IL.out.fr fr HNP.out
                  have hc : i = 0 ∨ i = 1 ∨ i = 2 ∨ i = 3 := by omega
                  rcases hc with rfl | rfl | rfl | rfl
                  · exact ⟨_, _, _, (il.cell 0).trans rfl, hwl.l0, HN.out.1⟩
                  · exact ⟨_, _, _, (il.cell 1).trans rfl, hwl.l1, HN.out.2.1⟩
                  · exact ⟨_, _, _, (il.cell 2).trans rfl, hwl.l2, HN.out.2.2.1⟩
                  · exact ⟨_, _, _, (il.cell 3).trans rfl, hwl.l3, HN.out.2.2.2⟩
                have HW := Lib.hid hwl
                have HWP := Lib.hid hwp
                have HFR := Lib.hid fr
                clear hwl hwp fr
                go_wp2_with fail
                clear hcell
                go_loopw [97] (fun v97 wq => ∃ k : Nat, k ≤ nq ∧ v97 = .int .i64 (k : Nat) ∧ Wl wq P Q nq ∧ Wl4 wq P Y0 Y1 Y2 Y3 V0 V1 V2 V3 ∧ Fr P wd wq) (fun v _ => nq - (intOf v).toNat)
                case atStart => exact ⟨0, Nat.zero_le _, rfl, HWP.out, HW.out, HFR.out⟩
                case round =>
                  clear HWP HW HFR
                  obtain ⟨k, hk, rfl, hwp, hwl, fr⟩ := hrel
                  by_cases hkn : k < nq
                  · have hkk : (k : Int) < (nq : Int) := by omega
                    obtain ⟨g9, a0, a1, a2, rfl, ⟨c0, c1, c2⟩, ⟨f0, f1, f2⟩, hg9⟩ := hwp.cell hkn
                    have HWP := Lib.hid (((hwp.set (g := g9) (k := k * 3) (.int .i64 (-9))).set (g := g9) (k := k * 3 + 1) (.int .i64 0)).set (g := g9) (k := k * 3 + 2) (.bool false))
                    have HW := Lib.hid (((hwl.set (g := g9) (k := k * 3) (.int .i64 (-9))).set (g := g9) (k := k * 3 + 1) (.int .i64 0)).set (g := g9) (k := k * 3 + 2) (.bool false))
                    have HFR := Lib.hid (((fr.setCell (p := ⟨g9, k * 3, none⟩) (.inl hg9) (.int .i64 (-9))).setCell (p := ⟨g9, k * 3 + 1, none⟩) (.inl hg9) (.int .i64 0)).setCell (p := ⟨g9, k * 3 + 2, none⟩) (.inl hg9) (.bool false))
                    clear hwp hwl fr
                    go_wp2_with fail
                    go_roundw
                    case rel => exact ⟨k + 1, by omega, by go_num, HWP.out, HW.out, HFR.out⟩
                    case measure => simp [intOf]; omega
                  · have hkk : ¬ (k : Int) < (nq : Int) := by omega
                    have HW := Lib.hid hwl
                    have HFR := Lib.hid fr
                    clear hwp hwl fr
                    go_wp2_with fail
                    go_roundw
                    case rel => exact ⟨i + 1, by omega, by go_num, HW.out, HFR.out⟩
                    case measure => simp [intOf]; omega
              · have hi4 : ¬ (i : Int) < 4 := by omega
                have fb := HFB.out.fr fr fun _ h => h
                have fx := HFX.out.fr fr fun _ h => h
                have ft : Fr (fun _ => False) W wr := HFF.out.trans fr fun q hq h => by have := HPW.out q h; omega
                have l0 := HN.out
                have KS := same_any (c0 := z0) (c1 := z1) (c2 := z2) (c3 := z3) (d0 := k0) (d1 := k1) (d2 := k2) (d3 := k3) fb.r4 fx.r4 (by omega) (by omega) (by omega) (by omega)
                obtain ⟨m0, m1, m2, m3⟩ := Te.four_cells fb.is
                obtain ⟨n0, n1, n2, n3⟩ := Te.four_cells fx.is
                have HFT := Lib.hid ft
                clear fb fx ft fr hwl l0 HFB HFX HFF IL HNP HPW
                go_wp2_with fail
                refine KS.mono ?_
                rintro e w9 ⟨rfl, f9⟩
                clear KS m0 m1 m2 m3 n0 n1 n2 n3
                have HB9 := Lib.hid (HBW.out.fr0 (fr_nil HFT.out f9))
                have HF9 := Lib.hid (fr_nil (fr_nil HFW.out HFT.out) f9)
                go_wp2_with fail
                go_roundw
                case rel => exact ⟨n + 1, M1, ks1, oks, rs2, by omega, by go_num, HB9.out, HF9.out⟩
                case measure => simp [intOf]; omega
      · have hni : ¬ (n : Int) < (l.length : Int) := by omega
        have HFR := Lib.hid fr
        have KO := other_lost hB
        clear hB fr
        go_wp2_with fail
        refine KO.mono ?_
        rintro e w9 ⟨rfl, f9⟩
        go_wp2_with fail
        go_ret
        exact ⟨rfl, fr_nil (fr_nil HF1.out HFR.out) f9⟩
end Go.Proofs.Ytfmhfngilimhjaa.Im

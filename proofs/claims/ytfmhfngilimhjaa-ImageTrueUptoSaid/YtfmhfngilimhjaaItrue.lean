/- ImageTrue: the law's walk. -/
import Derived.Test.YtfmhfngilimhjaaIrun
import Derived.Test.YtfmhfngilimhjaaItold
namespace Go.Proofs.Ytfmhfngilimhjaa.Im
open Go.RowKit Li

set_option maxHeartbeats 8000000 in
set_option maxRecDepth 100000 in
theorem true_walk {C : Te.Cf} {w : World} (hC : C.Ok w) (hs : Small C) {A : Option Addr} {cap : Nat} {l : List Cw} (hl : Comes w A l) (hcap : l.length ≤ cap) (hll : l.length ≤ 1048576) (hlx : ∀ t ∈ l, t.x.size ≤ 1048576) (hnow : ∀ t ∈ l, t.now ≤ 9223372036854775807) :
    Calls Try.prog 5 #[C.val, .slice A l.length cap] w fun e w' => e = .returned (.bool true) ∧ Fr (fun _ => False) w w' := by
  have KL := fun W => lives_any W
  have KT := fun (W : World) (k : C.Ok W) (j i n : Nat) (v z : Int) (i0 p : Nat) (b : Bool) (hk : Comes W A l) (hn : n ≤ l.length) (h0 : i0 < n) (ht : Tells C l i j v z i0 p) => told_any k hk hll hlx hn h0 ht (cap := cap) b
  unfold Te.Cf.val Te.Cf.cells at *
  have ib := Is.new w 30 C.arr
  have fb := (Fr.refl (fun _ => False) w).alloc (.cells C.arr 30)
  unfold Te.Cf.arr at *
  go_enter Try.func5, Try.ntmps5
  go_wp2_with fail
  generalize w.alloc _ = w0 at *
  have HB := Lib.hid ib
  have F0 := Lib.hid fb
  clear ib fb
  refine (KL _).mono ?_
  rintro e w1 ⟨rfl, f1⟩
  have ib := HB.out.fr f1 id
  have HB1 := Lib.hid ib
  have F1 := Lib.hid (fr_nil F0.out f1)
  have s0 := Te.nine_cells ib
  have HC1 := Lib.hid (hC.fr F1.out)
  have KN := new_any HC1.out
  clear KL f1 HB F0 ib
  unfold Te.Cf.val Te.Cf.cells at KN
  go_wp2_with fail
  refine KN.mono ?_
  rintro e w2 ⟨b, ks, rfl, him, h4, hm, hfo, hne, f2⟩
  have HB2 := Lib.hid (HB1.out.fr f2 id)
  have HBS : Hid (w.heap.size < w1.heap.size) := Lib.hid HB1.out.lt
  have F2 := Lib.hid (fr_nil F1.out f2)
  have HR2 : Hid (Run w2 b ks C l 0 w1.heap.size) := Lib.hid ⟨him, h4, new_fit hm, Hist.new (fun k hk => by
    obtain ⟨j, hj, rfl⟩ := List.getElem_of_mem hk
    exact congrArg Km.z (hm j hj).1) l 0, fun j hj => by
      have e : ks[j].r.lost = 0 := congrArg (fun m => m.r.lost) (hm j hj).1
      omega, hfo⟩
  have HZ : Hid (w.heap.size < w1.heap.size) := Lib.hid HB1.out.lt
  have HL := Lib.hid hl
  obtain ⟨z0, hz0⟩ : ∃ z0, z0 = w1.heap.size := ⟨_, rfl⟩
  rw [← hz0] at HR2 HZ
  clear him h4 hm hfo hne f2 s0 HC1 F1 HB1 KN hl HBS hz0
  go_wp2_with fail
  go_loopw [17] (fun iv wr => ∃ (n : Nat) (ks : List Kc), n ≤ l.length ∧ iv = .int .i64 (n : Nat) ∧ Run wr b ks C l n z0 ∧ Fr (fun q => z0 ≤ q) w2 wr) (fun iv _ => l.length - (intOf iv).toNat)
  case atStart => exact ⟨0, _, Nat.zero_le _, rfl, HR2.out, Fr.refl _ _⟩
  case round =>
    clear HR2
    obtain ⟨n, ks, hn, rfl, hr, fr⟩ := hrel
    by_cases hnl : n < l.length
    · have hni : (n : Int) < (l.length : Int) := by omega
      have hn6 : l.length ≤ 1048576 := hll
      have hfw : Fr (fun _ => False) w wr := F2.out.trans fr fun q hq h => by have := HZ.out; omega
      obtain ⟨g, o, hA, hg, hc⟩ := HL.out.fr hfw (fun _ _ => id) (by omega)
      obtain ⟨c0, c1, c2⟩ := hc n hnl
      have KK := fun (W : World) (h : Run W b ks C l n z0) => run_take h hnl hll (hnow _ (List.getElem_mem hnl))
      have fa := hfw.alloc (.cells #[.int .i64 l[n].now, .int .i64 l[n].oc, .string l[n].x] 48)
      have ia : Is (wr.alloc (.cells #[.int .i64 l[n].now, .int .i64 l[n].oc, .string l[n].x] 48)) wr.heap.size 48 #[.int .i64 l[n].now, .int .i64 l[n].oc, .string l[n].x] := Is.new wr _ _
      have hra := hr.fr0 ((Fr.refl (fun _ => False) wr).alloc (.cells #[.int .i64 l[n].now, .int .i64 l[n].oc, .string l[n].x] 48))
      have fra := fr.alloc (.cells #[.int .i64 l[n].now, .int .i64 l[n].oc, .string l[n].x] 48)
      have hz := hr.foot
      have hfl : ∀ q, Foot b ks q → q < wr.heap.size := fun q hq => by
        rcases hq with rfl | ⟨k, hk, rfl⟩
        · exact hr.im.lt
        · exact (hr.im.ok k hk).rv.lt
      obtain ⟨cb, hcb⟩ : ∃ cb, cb = wr.heap.size := ⟨_, rfl⟩
      rw [← hcb] at ia hfl
      have HFL : Hid (∀ q, Foot b ks q → z0 ≤ q ∧ q < cb) := Lib.hid fun q hq => ⟨hz q hq, hfl q hq⟩
      have HFA := Lib.hid fa
      have HIA := Lib.hid ia
      have HRA := Lib.hid hra
      have HFRA := Lib.hid fra
      have HNOW := Lib.hid (hnow _ (List.getElem_mem hnl))
      subst hA
      generalize l[n].now = now at *
      generalize l[n].oc = oc at *
      generalize l[n].x = x at *
      clear fa ia hra fra hz hfl hc hfw hr fr
      go_wp2_with fail
      rw [← hcb]
      generalize wr.alloc _ = wa at *
      refine (KK _ HRA.out).mono ?_
      rintro e w3 ⟨v9, ks', rfl, hr3, f3⟩
      have hi3 := HIA.out.fr f3 fun hq => by have := (HFL.out _ hq).2; omega
      have HF3 : Hid (Fr (fun _ => False) w w3) := Lib.hid (HFA.out.trans f3 fun q hq h => by have := (HFL.out _ h).1; have := HZ.out; omega)
      have HG3 : Hid (Fr (fun q => z0 ≤ q) w2 w3) := Lib.hid (HFRA.out.trans f3 fun q hq h => (HFL.out _ h).1)
      have hb3 := HB2.out.fr HG3.out fun hq => by have := HZ.out; omega
      have KV := view_any hr3.im hr3.h4 hs hr3.fit now HNOW.out
      have d0 := (hi3.cell 0).trans rfl
      have HR3 := Lib.hid hr3
      have HI3 := Lib.hid hi3
      have HB3 := Lib.hid hb3
      clear hr3 hi3 hb3 f3 c0 c1 c2 hg hcb HRA HFA HIA HFRA KK
      go_wp2_with fail
      refine KV.mono ?_
      rintro e w4 ⟨vb, g0, g1, g2, g3, rfl, hvw, hvf, f4⟩
      have hi4 := HI3.out.fr f4 id
      have hb4 := HB3.out.fr f4 id
      have HR4 := Lib.hid (HR3.out.fr0 f4)
      have HF4 := Lib.hid (fr_nil HF3.out f4)
      have HG4 : Hid (Fr (fun q => z0 ≤ q) w2 w4) := Lib.hid (HG3.out.trans f4 fun q hq h => h.elim)
      have s0 := Te.nine_cells (hb4.alloc (.cells #[.slice (some ⟨g0, 0, none⟩) C.l.length C.l.length, .slice (some ⟨g1, 0, none⟩) C.l.length C.l.length, .slice (some ⟨g2, 0, none⟩) C.cr.length C.cr.length, .slice (some ⟨g3, 0, none⟩) C.sg.length C.sg.length] 55))
      clear KV d0 HR3 HI3 HB3 HF3 HG3
      go_upto_region 9 with fail
      have iv5 := Is.new w4 55 #[.slice (some ⟨g0, 0, none⟩) C.l.length C.l.length, .slice (some ⟨g1, 0, none⟩) C.l.length C.l.length, .slice (some ⟨g2, 0, none⟩) C.cr.length C.cr.length, .slice (some ⟨g3, 0, none⟩) C.sg.length C.sg.length]
      have fal := (Fr.refl (fun _ => False) w4).alloc (.cells #[.slice (some ⟨g0, 0, none⟩) C.l.length C.l.length, .slice (some ⟨g1, 0, none⟩) C.l.length C.l.length, .slice (some ⟨g2, 0, none⟩) C.cr.length C.cr.length, .slice (some ⟨g3, 0, none⟩) C.sg.length C.sg.length] 55)
      have io5 := hvw.i0.fr fal id
      have ip5 := hvw.i1.fr fal id
      have hi5 := hi4.fr fal id
      have hb5 := hb4.fr fal id
      obtain ⟨vb2, hvb2⟩ : ∃ vb2, vb2 = w4.heap.size := ⟨_, rfl⟩
      rw [← hvb2] at iv5
      have HIV := Lib.hid iv5
      have HIO := Lib.hid io5
      have HIP := Lib.hid ip5
      have HI5 := Lib.hid hi5
      have HB5 := Lib.hid hb5
      have HR5 := Lib.hid (HR4.out.fr0 fal)
      have HF5 := Lib.hid (fr_nil HF4.out fal)
      have HG5 : Hid (Fr (fun q => z0 ≤ q) w2 _) := Lib.hid (HG4.out.trans fal fun q hq h => h.elim)
      rw [← hvb2]
      obtain ⟨v0, v1, v2, v3⟩ := Te.four_cells iv5
      clear fal hvw hvf hi4 hb4 HR4 HF4 HG4 hvb2 iv5 io5 ip5 hi5 hb5 f4
      generalize w4.alloc _ = w5 at *
      go_wp2_with fail
      clear v0 v1 v2 v3 s0
      have hVl : (vOcc C now ks').length = C.l.length := by rw [vOcc, viewK_length, worstL_length]
      have hPl : (vPos C now ks').length = C.l.length := by rw [vPos, viewK_length, worstL_length]
      have HOC := Lib.hid fun i (hi : i < C.l.length) => occ_cases HR5.out.fit HR5.out.hist now hi
      generalize vOcc C now ks' = V at *
      generalize vPos C now ks' = PP at *
      go_loopw [71] (fun iv wr => ∃ i : Nat, i ≤ C.l.length ∧ iv = .int .i64 (i : Nat) ∧ Fr (fun _ => False) w5 wr) (fun iv _ => C.l.length - (intOf iv).toNat)
      case atStart => exact ⟨0, Nat.zero_le _, rfl, Fr.refl _ _⟩
      case round =>
        obtain ⟨i, hin, rfl, fr9⟩ := hrel
        have hsl := hs.l
        by_cases hil : i < C.l.length
        · have hii : (i : Int) < (C.l.length : Int) := by omega
          have hiV : i < V.length := by omega
          have hiP : i < PP.length := by omega
          have lv := look_cells (HIO.out.fr fr9 id) hiV
          have hcase := HOC.out i hil
          rw [List.getElem?_eq_getElem hiV, List.getElem?_eq_getElem hiP, Option.some.injEq, Option.some.injEq] at hcase
          rcases hcase with ⟨e1, e2⟩ | ⟨v, z, j, p, i0, hi0, e1, hz, ha, h0, hoc, hx0, hx1, hx2, hx3, hx4, hx5⟩
          · have al := fun o => (Fr.refl (fun _ => False) wr).alloc o
            have lp := look_cells ((HIP.out.fr fr9 id).alloc (.cells #[.int .i64 1, .int .i64 (-1), .bool false] 59)) hiP
            rw [e1] at lv
            rw [e2] at lp
            obtain ⟨lv0, lv1, lv2⟩ := lv
            obtain ⟨lp0, lp1, lp2⟩ := lp
            obtain ⟨v0, v1, v2, v3⟩ := Te.four_cells ((HIV.out.fr fr9 id).alloc (.cells #[.int .i64 1, .int .i64 (-1), .bool false] 59))
            simp only at lv0 lv1 lv2 lp0 lp1 lp2
            have f9 := al (.cells #[.int .i64 1, .int .i64 (-1), .bool false] 59)
            clear al e1 e2
            go_wp2_with fail
            exact ⟨⟨i + 1, by omega, rfl, fr_nil fr9 f9⟩, by show C.l.length - ((i : Int) + 1).toNat < C.l.length - (i : Int).toNat; omega⟩
          · rw [Option.some.injEq] at e1
            rw [e1] at lv
            obtain ⟨lv0, lv1, lv2⟩ := lv
            simp only at lv0 lv1 lv2
            have hzb := read_bd hx1
            rw [hx2] at hzb
            have hn1 := HNOW.out
            have hz0 : 0 ≤ z := by omega
            have f9 := (Fr.refl (fun _ => False) wr).alloc (.cells #[.int .i64 v, .int .i64 z, .bool true] 59)
            have ilk := Is.new wr 59 #[.int .i64 v, .int .i64 z, .bool true]
            obtain ⟨lb, hlb⟩ : ∃ lb, lb = wr.heap.size := ⟨_, rfl⟩
            rw [← hlb] at ilk
            clear e1
            go_wp2_with fail
            rw [← hlb]
            have f10 := fr_nil fr9 f9
            generalize wr.alloc _ = W at *
            have hi9 := HI5.out.fr f10 id
            have hb9 := HB5.out.fr f10 id
            have hfw9 := fr_nil HF5.out f10
            have hC9 := hC.fr hfw9
            obtain ⟨gs, os, hAs, _, _, sc1, _⟩ := Te.rd_sec hC9.secs hil
            rw [hoc] at sc1
            have hcm := HL.out.fr hfw9 (fun _ _ => id)
            have KQ := fun u : Fro W => KT u.w (hC9.fr u.f) j i (n + 1) v z i0 p true (hcm.fr u.f (fun _ _ => id)) (by omega) h0 ⟨⟨hi0, hx0, hx1, hx2, hx3, hx5⟩, hx4⟩
            have hF10 := Lib.hid f10
            have T0 := cell_fro ((hi9.cell 0).trans rfl : W.cell? ⟨cb, 0, none⟩ = some (.int .i64 now))
            have L0 := cell_fro ((ilk.cell 0).trans rfl : W.cell? ⟨lb, 0, none⟩ = some (.int .i64 v))
            have L1 := cell_fro ((ilk.cell 1).trans rfl : W.cell? ⟨lb, 1, none⟩ = some (.int .i64 z))
            have L2 := cell_fro ((ilk.cell 2).trans rfl : W.cell? ⟨lb, 2, none⟩ = some (.bool true))
            have S1 := cell_fro sc1
            rw [hAs] at KQ hb9
            have N9 := fun u : Fro W => Te.nine_cells (hb9.fr u.f id)
            have q1 : decide (now < z) = false := by simpa using hz
            have q2 : decide (C.t.age < now - z) = false := by simpa using ha
            have q3 : n + 1 ≤ cap := by omega
            clear lv0 lv1 lv2 hlb f9 f10 hi9 hb9 hfw9 hC9 sc1 hcm ilk hx0 hx1 hx2 hx3 hx4 hx5 hoc HOC hzb
            refine region_fro (by kernel_rfl) (by kernel_rfl) ?_
            repeat (go_big_quiet_step ((go_at_call 24; with_reducible exact call_fro (KQ _))))
            refine wpQuiet_nil ?_
            rintro w8 ⟨⟨w9, f12⟩, hww⟩
            replace hww : w8 = w9 := hww
            subst hww
            clear T0 L0 L1 L2 S1 N9 KQ
            go_wp2_with fail
            first
              | exact ⟨⟨i + 1, by omega, rfl, fr_nil hF10.out f12⟩, by show C.l.length - ((i : Int) + 1).toNat < C.l.length - (i : Int).toNat; omega⟩
              | exact ⟨_, ⟨i + 1, by omega, rfl, fr_nil hF10.out f12⟩, by show C.l.length - ((i : Int) + 1).toNat < C.l.length - (i : Int).toNat; omega⟩
        · have hii : ¬ (i : Int) < (C.l.length : Int) := by omega
          go_wp2_with fail
          exact ⟨⟨n + 1, ks', by omega, rfl, HR5.out.fr0 fr9, HG5.out.trans fr9 fun q hq h => h.elim⟩, by show l.length - ((n : Int) + 1).toNat < l.length - (n : Int).toNat; omega⟩
    · have hni : ¬ (n : Int) < (l.length : Int) := by omega
      go_wp2_with fail
      go_ret
      exact ⟨rfl, F2.out.trans fr fun q hq h => by have := HZ.out; omega⟩
end Go.Proofs.Ytfmhfngilimhjaa.Im

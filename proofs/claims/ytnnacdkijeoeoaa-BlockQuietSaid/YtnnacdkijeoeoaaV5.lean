import Derived.Test.YtnnacdkijeoeoaaV3
import Derived.Test.YtnnacdkijeoeoaaNop
import Derived.Test.YtnnacdkijeoeoaaLtob
import Derived.Test.YtnnacdkijeoeoaaKa
import Derived.SizedLaws
/- What comes in: a row of yes and no; a line's cycle. -/
namespace Go.Proofs.Ytnnacdkijeoeoaa.Bk
open Go.ChangeShapes Go.WideShapes Go.ChangeAt Go.RowKit Go.Deep Go.Joins Lk Nk

/-- a cycle that comes in -/
def cyA (m : Int) (y : Bl) (V : Vm) (now : Int) : Array Value := #[.int .i64 m, .int .i64 y.ask, .int .i64 y.dn, .int .i64 y.gr, .slice V.A1 V.occ.length V.c1, .slice V.A2 V.pos.length V.c2, .slice V.A3 V.shut.length V.c3, .slice V.A4 V.lamp.length V.c4, .int .i64 now]
section
variable {H : Type} {enc : TypeId × Value → H} {w : World} {base : Nat}
set_option maxRecDepth 100000 in
theorem open_bools {v : Value} {d : DataW H} {ps : List MemPlace} (hv : Value.okWide Try.prog w .any base 53 v) (h : DataW.Trod enc Try.prog w 0 (fun _ => true) true 53 v d ps) :
    ∃ (A : Option Addr) (c : Nat) (l : List Bool), v = .slice A l.length c ∧ Rd w A (l.map Value.bool) ∧ l.length ≤ c ∧ c ≤ maxLen := by
  obtain ⟨a0, len0, cap0, rfl⟩ := okWide_slice Try.underlying53 hv
  obtain ⟨fuel, hf⟩ := h
  obtain ⟨A, c, l, e, r, k, m, -⟩ := open_flatQ (fun (_ : Bool) _ => True) 1 (fun b : Bool => [Value.bool b]) (fun _ => rfl) Try.underlying53 cells_bool (fun _ cs _ h => by
    obtain ⟨b, e, _⟩ := DataW.trod_bool Try.underlying4 h
    exact ⟨b, by simpa using e, trivial⟩) (show DataW.trod enc Try.prog w 0 (fun _ => true) true fuel 53 [.slice a0 len0 cap0] = some _ from hf)
  exact ⟨A, c, l, e, by rw [show l.map Value.bool = l.flatMap (fun b => [Value.bool b]) from by clear e r k m; induction l with | nil => rfl | cons x xs ih => rw [List.map_cons, List.flatMap_cons, ih]; rfl]; exact r, k, m⟩
theorem cells_cy15 : Try.prog.cellsOf 42 = 9 := by kernel_rfl
set_option maxRecDepth 100000 in
set_option maxHeartbeats 1000000 in
theorem open_cycle15 {v : Value} {d : DataW H} {ps : List MemPlace} (hv : Value.okWide Try.prog w .any base 42 v) (h : DataW.Trod enc Try.prog w 0 (fun _ => true) true 42 v d ps) : ∃ (m : Int) (y : Bl) (V : Vm) (now : Int), v = .agg (cyA m y V now) ∧ V.Ok w := by
  simp only [Value.okWide, Try.underlying42] at hv
  obtain ⟨cs, rfl, hcs, _⟩ := hv
  obtain ⟨fuel, hf0⟩ := h
  obtain ⟨l⟩ := cs
  obtain ⟨xs, m, _, hx, hlen, hxl, hf⟩ := DataW.trod_struct Try.underlying42 hf0
  rw [cells_cy15] at hlen
  match l, hlen with
  | [c0, c1, c2, c3, c4, c5, c6, c7, c8], _ =>
    match xs, hxl with
    | [x0, x1, x2, x3], _ =>
      have h0 : DataW.trod enc Try.prog w 0 (fun _ => true) true m 3 (([c0, c1, c2, c3, c4, c5, c6, c7, c8].drop 0).take (Try.prog.cellsOf 3)) = some x0 := hf 0 _ rfl
      have h1 : DataW.trod enc Try.prog w 0 (fun _ => true) true m 37 (([c0, c1, c2, c3, c4, c5, c6, c7, c8].drop (0 + Try.prog.cellsOf 3)).take (Try.prog.cellsOf 37)) = some x1 := hf 1 _ rfl
      have h2 : DataW.trod enc Try.prog w 0 (fun _ => true) true m 40 (([c0, c1, c2, c3, c4, c5, c6, c7, c8].drop (0 + Try.prog.cellsOf 3 + Try.prog.cellsOf 37)).take (Try.prog.cellsOf 40)) = some x2 := hf 2 _ rfl
      have h3 : DataW.trod enc Try.prog w 0 (fun _ => true) true m 3 (([c0, c1, c2, c3, c4, c5, c6, c7, c8].drop (0 + Try.prog.cellsOf 3 + Try.prog.cellsOf 37 + Try.prog.cellsOf 40)).take (Try.prog.cellsOf 3)) = some x3 := hf 3 _ rfl
      simp only [cells_view, Try.cellInt, cells_blk] at h0 h1 h2 h3
      obtain ⟨a0, rfl, -⟩ := int_of (show DataW.trod enc Try.prog w 0 (fun _ => true) true m 3 [c0] = some x0 from h0)
      obtain ⟨⟨p0, p1, p2⟩, ep⟩ := blk_of (show DataW.trod enc Try.prog w 0 (fun _ => true) true m 37 [c1, c2, c3] = some x1 from h1)
      simp only [List.cons.injEq, and_true] at ep
      obtain ⟨rfl, rfl, rfl⟩ := ep
      obtain ⟨V, eV, hV⟩ := view_of (show DataW.trod enc Try.prog w 0 (fun _ => true) true m 40 [c4, c5, c6, c7] = some x2 from h2)
      unfold Vm.arr at eV
      simp only [List.cons.injEq, and_true] at eV
      obtain ⟨rfl, rfl, rfl, rfl⟩ := eV
      obtain ⟨a3, rfl, -⟩ := int_of (show DataW.trod enc Try.prog w 0 (fun _ => true) true m 3 [c8] = some x3 from h3)
      exact ⟨a0, ⟨p0, p1, p2⟩, V, a3, rfl, hV⟩
end
end Go.Proofs.Ytnnacdkijeoeoaa.Bk
/- The walk of BlockQuiet (written by gen/quiet.py). -/
namespace Go.Proofs.Ytnnacdkijeoeoaa.Bk
open Go.RowKit Lk Nk

theorem rd_bool {w : World} {A : Option Addr} {l : List Bool} (h : Rd w A (l.map Value.bool)) {j : Nat} (hj : j < l.length) : ∃ g o, A = some ⟨g, o, none⟩ ∧ w.cell? ⟨g, o + j, none⟩ = some (.bool l[j]) := by
  obtain ⟨b, o, hA, _, hc⟩ := h (by simp; omega)
  exact ⟨b, o, hA, hc j _ (by simp [hj])⟩
theorem sQ {d now occ st : Int} : stepK now occ st 0 0 default (lnG 0 0 d d 0) false = endK 0 0 default (lnG 0 0 d d 0) false := by
  simp [stepK, oneE, one, lnG]
set_option maxRecDepth 100000 in
set_option maxHeartbeats 16000000 in
theorem quiet_walk {w : World} (x : Int) {A : Option Addr} {c : Nat} (l : List Bool) (hA : Rd w A (l.map Value.bool)) (hl : l.length ≤ 9223372036854775807) : Calls Try.prog 4 #[.int .i64 x, .slice A l.length c] w fun e w' => e = .returned (.bool true) ∧ Fr (fun _ => False) w w' := by
  obtain ⟨d, hd, hdl⟩ := umod x 1000 (by decide) (by decide)
  have hd : wrap64 ((IntKind.u64.wrap x).tmod 1000) = (d : Int) := hd
  have HD := Lib.hid (show (d : Int) ≤ 1000 by omega)
  have HA := Lib.hid hA
  have HL := Lib.hid hl
  clear hdl hA hl
  go_enter Try.func4, Try.ntmps4
  go_wp2_with fail
  refine (lives15_any _).mono ?_
  rintro _ w1 ⟨rfl, f1⟩
  have HF := Lib.hid f1
  clear f1
  go_upto_region 4 with fail
  simp only [hd]
  clear hd
  go_wp2_with fail
  refine (end15_any _).mono ?_
  rintro _ w2 ⟨C, rfl, hcf, -, hC, f1⟩
  have HF := Lib.hid (fr_nil HF.out f1)
  have HCF := Lib.hid hcf
  have HC := Lib.hid hC
  clear f1 hcf hC
  unfold Cm.val Cm.arr
  go_wp2_with fail
  refine (fresh_any _).mono ?_
  rintro _ w3 ⟨K0, rfl, hk0, ho0, f1⟩
  have KH := hear_any (HC.out.fr f1) (endK_ok ho0 hk0 fresh_ok) 1 ⟨d, d, 0⟩
  have htm : tmB (d : Int) = true := tm_ok (by omega) (by have := HD.out; omega)
  rw [hk0, HCF.out, show hearM endF freshK 1 ⟨d, d, 0⟩ = (endK 0 0 default (lnG 0 0 d d 0) false, 0) from end_hear fresh_ok htm htm rfl] at KH
  have HF3 := Lib.hid (fr_nil HF.out f1)
  clear f1 hk0 ho0 HF htm
  unfold Cm.val Cm.arr Km.val Km.arr Bl.val at KH
  unfold Km.val Km.arr
  go_wp2_with fail
  refine KH.mono ?_
  rintro _ w4 ⟨K, rfl, hk, ho, f1⟩
  have HB := Lib.hid (bx_made ho f1)
  have HK := Lib.hid hk
  clear KH hk ho f1 HC HCF
  unfold Km.val Km.arr
  go_upto_region 7 with fail
  generalize hw5 : w4.alloc _ = w5 at *
  generalize w4.heap.size = kb at *
  clear hw5
  obtain ⟨g1, o1, g5, o5, c0, d0, c1, c2, c3, c4, c5, c6, KL⟩ := look_at HB.out HK.out
  have KL := KL _ (Fr.refl _ _)
  dsimp only [lnG] at KL
  go_wp2_with fail
  refine KL.mono ?_
  rintro _ w6 ⟨rfl, f1⟩
  have hfa := (Fr.refl (fun _ => False) w6).alloc (.cells #[.int .i64 0, .int .i64 0, .int .i64 0] 37)
  have HB := Lib.hid (HB.out.fr (fr_nil f1 hfa))
  have HWB := Lib.hid (Is.new w6 37 #[.int .i64 0, .int .i64 0, .int .i64 0])
  clear f1 KL c0 c1 c2 c3 c4 c5 c6 d0 hfa
  go_upto_region 8 with fail
  generalize w6.alloc _ = w7 at *
  generalize w6.heap.size = wb at *
  clear HL
  go_wp2_with fail
  go_loopg [8, 9, 10, 11, 12, 34] l.length (fun gi _ _ _ _ _ v34 wr => ∃ (k : Nat) (K : Km), k ≤ l.length ∧ gi = l.length - k ∧ v34 = .int .i64 (k : Nat) ∧ K.kp = endK 0 0 default (lnG 0 0 d d 0) false ∧ Bx w3 wr kb K ∧ Is wr wb 37 #[.int .i64 0, .int .i64 0, .int .i64 0])
  case atStart => exact ⟨0, K, Nat.zero_le _, rfl, rfl, HK.out, HB.out, HWB.out⟩
  case round =>
    clear HB HK HWB
    obtain ⟨k, K7, hk7, rfl, rfl, hk, hb, hwb⟩ := hrel
    generalize K7 = K at *
    have HB := Lib.hid hb
    have HK := Lib.hid hk
    have HWB := Lib.hid hwb
    clear hk hb hwb
    by_cases hlt : k < l.length
    · obtain ⟨ga, oa, hA1, q0⟩ := rd_bool (HA.out.fr (fr_nil HF3.out HB.out.f) fun _ _ => id) hlt
      obtain ⟨bv, hbv⟩ : ∃ bv, bv = l[k] := ⟨_, rfl⟩
      rw [← hbv] at q0
      clear hbv
      have HLT := Lib.hid hlt
      have i1 : (0 : Int) ≤ (k : Int) := by omega
      have i2 : (k : Int) < (l.length : Int) := by omega
      rw [hA1]
      have HA1 := Lib.hid hA1
      clear hA1
      by_cases h60 : k < 60
      rotate_left
      · have e1 : decide ((k : Int) ≥ 60) = true := decide_eq_true (by omega)
        have e2 : decide (k ≥ 60) = true := decide_eq_true (by omega)
        have e3 : decide (60 ≤ k) = true := decide_eq_true (by omega)
        obtain ⟨g1, o1, g5, o5, c0, d0, c1, c2, c3, c4, c5, c6, -⟩ := look_at HB.out HK.out
        obtain ⟨b0, b1, b2⟩ := three_cells HWB.out
        clear hlt h60 hk7
        go_wp2_with fail
        go_ret
        exact ⟨rfl, fr_nil HF3.out HB.out.f⟩
      · have e1 : decide ((k : Int) ≥ 60) = false := decide_eq_false (by omega)
        have e2 : decide (k ≥ 60) = false := decide_eq_false (by omega)
        have e3 : decide (60 ≤ k) = false := decide_eq_false (by omega)
        have H60 := Lib.hid h60
        cases bv
        · skip
          have c6 : wr.cell? ⟨kb, 6, none⟩ = some (.bool K.dirty) := HB.out.is.cell 6
          have z6 := HB.out.is.frozen 6
          have HB9 := Lib.hid (HB.out.dirt false)
          have HK9 := Lib.hid (dirt_kp HK.out false)
          have HWB9 := Lib.hid (HWB.out.fr ((Fr.refl (fun q => q = kb) wr).setCell (p := ⟨kb, 6, none⟩) (.inl rfl) (.bool false)) (is_ne HWB.out HB.out.is (by decide)))
          go_upto_region 16 with fail
          clear c6 z6 q0 i1 i2 e1 e2 e3 HB HK HWB
          generalize wr.setCell _ _ = w8 at *
          generalize ({ K with dirty := false } : Km) = K8 at *
          generalize K8 = K at *
          have HB := HB9
          have HK := HK9
          have HWB := HWB9
          clear HB9 HK9 HWB9
          have HSZ := Lib.hid HB.out.f.size
          obtain ⟨n1, hn1⟩ : ∃ n1 : Int, n1 = (k : Int) + 1 := ⟨_, rfl⟩
          have h8 : wrap64 ((k : Int) + 1) = n1 := by rw [IntWalk.wrap64_in _ ⟨by omega, by have := H60.out; omega⟩]; exact hn1.symm
          have HN1 : Hid (n1 = (k : Int) + 1 ∧ 0 ≤ n1 ∧ n1 ≤ 100) := Lib.hid (by have := H60.out; omega)
          clear hn1
          go_cut [11, 12] from 43 to 55 (fun v11 v12 wx => ∃ (n2 : Nat) (K2 : Km), v11 = .pointer (some ⟨n2, 0, none⟩) ∧ v12 = .int .i64 0 ∧ K2.kp = endK 0 0 default (lnG 0 0 d d 0) false ∧ Bx w8 wx n2 K2)
          case first =>
            have hok := okG (o := 0) (gr := 0) (told := 0) (pa := d) (pd := d) (since := 0) (by decide) (by decide) (by decide) (by have := HD.out; omega) (by have := HD.out; omega) (by decide)
            have h8w : IntKind.i64.wrap ((k : Int) + 1) = n1 := (IntWalk.i64_left _).trans h8
            have htm : tmB n1 = true := tm_ok (by have := HN1.out; omega) (by have := HN1.out; omega)
            have KT : ∀ (C : Cm) (V : Vm) (oc : Int), C.cf = endF → V.vp = seenV oc n1 → ∀ W, Fr (fun _ => False) w8 W → C.Ok W → V.Ok W → Calls Try.prog 7 #[.agg #[.slice C.A1 C.l.length C.c1, .slice C.A2 C.js.length C.c2, .slice C.A3 C.sg.length C.c3, .slice C.A4 C.cr.length C.c4, .slice C.A5 C.rs.length C.c5, .int .i64 C.tm.age, .int .i64 C.tm.brake, .int .i64 C.tm.hold, .int .i64 C.tm.budget], .agg #[.slice K.A1 K.own.length K.c1, .slice K.A2 K.rts.length K.c2, .slice K.A3 K.pts.length K.c3, .slice K.A4 K.crs.length K.c4, .slice K.A5 K.lns.length K.c5, .slice K.A6 K.rss.length K.c6, .bool K.dirty], .agg #[.slice V.A1 V.occ.length V.c1, .slice V.A2 V.pos.length V.c2, .slice V.A3 V.shut.length V.c3, .slice V.A4 V.lamp.length V.c4], .int .i64 n1] W (Out W (endK 0 0 default (lnG 0 0 d d 0) false, 0)) := fun C V oc hcf hv W f hC hV => by
              have := bstep_any hC (endK_ok (HB.out.own.fr f fun _ _ => id) HK.out hok) hV n1
              rw [hv, hcf, HK.out, end_step hok htm, sQ] at this
              exact this
            have HS : Hid (∀ W, Fr (fun _ => False) w8 W → (fun Wx => Wx.cell? ⟨kb, 0, none⟩ = some (.slice K.A1 K.own.length K.c1) ∧ Wx.cell? ⟨kb, 1, none⟩ = some (.slice K.A2 K.rts.length K.c2) ∧ Wx.cell? ⟨kb, 2, none⟩ = some (.slice K.A3 K.pts.length K.c3) ∧ Wx.cell? ⟨kb, 3, none⟩ = some (.slice K.A4 K.crs.length K.c4) ∧ Wx.cell? ⟨kb, 4, none⟩ = some (.slice K.A5 K.lns.length K.c5) ∧ Wx.cell? ⟨kb, 5, none⟩ = some (.slice K.A6 K.rss.length K.c6) ∧ Wx.cell? ⟨kb, 6, none⟩ = some (.bool K.dirty)) W) := Lib.hid fun W fW => Bk.core7 (K := K) (HB.out.is.fr fW id)
            have HG := Lib.hid (Fr.refl (fun _ => False) w8).drew
            refine wp_region_held_drew (S := (fun Wx => Wx.cell? ⟨kb, 0, none⟩ = some (.slice K.A1 K.own.length K.c1) ∧ Wx.cell? ⟨kb, 1, none⟩ = some (.slice K.A2 K.rts.length K.c2) ∧ Wx.cell? ⟨kb, 2, none⟩ = some (.slice K.A3 K.pts.length K.c3) ∧ Wx.cell? ⟨kb, 3, none⟩ = some (.slice K.A4 K.crs.length K.c4) ∧ Wx.cell? ⟨kb, 4, none⟩ = some (.slice K.A5 K.lns.length K.c5) ∧ Wx.cell? ⟨kb, 5, none⟩ = some (.slice K.A6 K.rss.length K.c6) ∧ Wx.cell? ⟨kb, 6, none⟩ = some (.bool K.dirty))) (by kernel_rfl) (HS.out _ (Fr.refl _ w8).drew) (fun hHeld => ?_)
            generalize w8.drew = wdr at *
            refine wpAnyH_take (i := 1) (oi := { dst := some 45, op := _, type := _, pos := _, after := _, guard := _ }) (v := ?_) rfl (by kernel_rfl) (by kernel_rfl) (by kernel_rfl) (fun _ _ _ h => h) (Or.inl ⟨by rfl, ?_⟩) (by assumption) ?_
            rotate_left
            · intro Wx hSw
              try dsimp only at hSw
              go_simp
              try with_reducible rfl
            try simp only [Act.put, List.setIfInBounds_toArray, List.set_cons_zero, List.set_cons_succ]
            refine wpAnyH_take (i := 2) (oi := { dst := some 46, op := _, type := _, pos := _, after := _, guard := _ }) (v := ?_) rfl (by kernel_rfl) (by kernel_rfl) (by kernel_rfl) (fun _ _ _ h => h) (Or.inl ⟨by rfl, ?_⟩) (by assumption) ?_
            rotate_left
            · intro Wx hSw
              try dsimp only at hSw
              go_simp
              try with_reducible rfl
            try simp only [Act.put, List.setIfInBounds_toArray, List.set_cons_zero, List.set_cons_succ]
            refine wpAnyH_take (i := 3) (oi := { dst := some 47, op := _, type := _, pos := _, after := _, guard := _ }) (v := ?_) rfl (by kernel_rfl) (by kernel_rfl) (by kernel_rfl) (fun _ _ _ h => h) (Or.inl ⟨by rfl, ?_⟩) (by assumption) ?_
            rotate_left
            · intro Wx hSw
              try dsimp only at hSw
              go_simp
              try with_reducible rfl
            try simp only [Act.put, List.setIfInBounds_toArray, List.set_cons_zero, List.set_cons_succ]
            refine wpAnyH_take (i := 4) (oi := { dst := some 48, op := _, type := _, pos := _, after := _, guard := _ }) (v := ?_) rfl (by kernel_rfl) (by kernel_rfl) (by kernel_rfl) (fun _ _ _ h => h) (Or.inl ⟨by rfl, ?_⟩) (by assumption) ?_
            rotate_left
            · intro Wx hSw
              try dsimp only at hSw
              go_simp
              try with_reducible rfl
            try simp only [Act.put, List.setIfInBounds_toArray, List.set_cons_zero, List.set_cons_succ]
            refine wpAnyH_take (i := 6) (oi := { dst := some 50, op := _, type := _, pos := _, after := _, guard := _ }) (v := ?_) rfl (by kernel_rfl) (by kernel_rfl) (by kernel_rfl) (fun _ _ _ h => h) (Or.inl ⟨by rfl, ?_⟩) (by assumption) ?_
            rotate_left
            · intro Wx hSw
              try dsimp only at hSw
              go_simp
              try with_reducible rfl
            try simp only [Act.put, List.setIfInBounds_toArray, List.set_cons_zero, List.set_cons_succ]
            refine wpAnyH_take (i := 7) (oi := { dst := some 51, op := _, type := _, pos := _, after := _, guard := _ }) (v := ?_) rfl (by kernel_rfl) (by kernel_rfl) (by kernel_rfl) (fun _ _ _ h => h) (Or.inl ⟨by rfl, ?_⟩) (by assumption) ?_
            rotate_left
            · intro Wx hSw
              try dsimp only at hSw
              go_simp
              try with_reducible rfl
            try simp only [Act.put, List.setIfInBounds_toArray, List.set_cons_zero, List.set_cons_succ]
            refine wpAnyH_ready (rs := [0, 12]) (by kernel_rfl) (by simp) (AllReadyH.cons rfl (fun KK hKK => ?_) (AllReadyH.cons rfl (fun KK hKK => ?_) (AllReadyH.nil)))
            · go_simp
              try simp only [h8w]
              have HGP := HG
              refine (end15_any _).mono ?_
              rintro _ v0 ⟨C, rfl, hcf, -, hC, fa⟩
              have HG := Lib.hid (fr_nil HG.out fa)
              have HF0 := Lib.hid (Fr.refl (fun _ => False) v0)
              have HCF := Lib.hid hcf
              have HC := Lib.hid hC
              clear hcf hC
              unfold Cm.val Cm.arr
              clear fa
              (with_reducible refine hKK.out _ _ (HS.out _ HG.out) (fun hHeld => ?_))
              clear hKK KK
              refine wpAnyH_ready (rs := [5, 12]) (by kernel_rfl) (by simp) (AllReadyH.cons rfl (fun KK hKK => ?_) (AllReadyH.cons rfl (fun KK hKK => ?_) (AllReadyH.nil)))
              · go_simp
                try simp only [h8w]
                have HGP := HG
                refine (seen15_any _ n1 _).mono ?_
                rintro _ v1 ⟨V, rfl, hv, hvo, fa⟩
                have HG := Lib.hid (fr_nil HG.out fa)
                have HF0 := Lib.hid (fr_nil HF0.out fa)
                have HF1 := Lib.hid (Fr.refl (fun _ => False) v1)
                have HVP := Lib.hid hv
                have HVO := Lib.hid hvo
                clear hv hvo
                unfold Vm.val Vm.arr
                clear fa
                (with_reducible refine hKK.out _ _ (HS.out _ HG.out) (fun hHeld => ?_))
                clear hKK KK
                refine wpAnyH_ready (rs := [8, 12]) (by kernel_rfl) (by simp) (AllReadyH.cons rfl (fun KK hKK => ?_) (AllReadyH.cons rfl (fun KK hKK => ?_) (AllReadyH.nil)))
                · go_simp
                  try simp only [h8w]
                  have HGP := HG
                  refine (KT C V _ HCF.out HVP.out _ HG.out (HC.out.fr HF0.out) (HVO.out.fr HF1.out)).mono ?_
                  rintro _ v2 ⟨K2, rfl, hk2, ho2, fa⟩
                  have HG := Lib.hid (fr_nil HG.out fa)
                  have HF0 := Lib.hid (fr_nil HF0.out fa)
                  have HF1 := Lib.hid (fr_nil HF1.out fa)
                  have HF2 := Lib.hid (Fr.refl (fun _ => False) v2)
                  have HK2 := Lib.hid hk2
                  have HO := Lib.hid (ho2.base HGP.out.size)
                  clear hk2 ho2
                  unfold Km.val Km.arr
                  clear fa
                  (with_reducible refine hKK.out _ _ (HS.out _ HG.out) (fun hHeld => ?_))
                  clear hKK KK
                  refine wpAnyH_take (i := 9) (oi := { dst := some 43, op := _, type := _, pos := _, after := _, guard := _ }) (v := ?_) rfl (by kernel_rfl) (by kernel_rfl) (by kernel_rfl) (fun _ _ _ h => h) (Or.inl ⟨by rfl, ?_⟩) (by assumption) ?_
                  rotate_left
                  · intro Wx hSw
                    try dsimp only at hSw
                    go_simp
                    try with_reducible rfl
                  try simp only [Act.put, List.setIfInBounds_toArray, List.set_cons_zero, List.set_cons_succ]
                  refine wpAnyH_take (i := 10) (oi := { dst := some 53, op := _, type := _, pos := _, after := _, guard := _ }) (v := ?_) rfl (by kernel_rfl) (by kernel_rfl) (by kernel_rfl) (fun _ _ _ h => h) (Or.inl ⟨by rfl, ?_⟩) (by assumption) ?_
                  rotate_left
                  · intro Wx hSw
                    try dsimp only at hSw
                    go_simp
                    try with_reducible rfl
                  try simp only [Act.put, List.setIfInBounds_toArray, List.set_cons_zero, List.set_cons_succ]
                  refine wpAnyH_take (i := 11) (oi := { dst := some 54, op := _, type := _, pos := _, after := _, guard := _ }) (v := ?_) rfl (by kernel_rfl) (by kernel_rfl) (by kernel_rfl) (fun _ _ _ h => h) (Or.inl ⟨by rfl, ?_⟩) (by assumption) ?_
                  rotate_left
                  · intro Wx hSw
                    try dsimp only at hSw
                    go_simp
                    try with_reducible rfl
                  try simp only [Act.put, List.setIfInBounds_toArray, List.set_cons_zero, List.set_cons_succ]
                  refine wpAnyH_ready (rs := [12]) (by kernel_rfl) (by simp) (AllReadyH.cons rfl (fun KK hKK => ?_) (AllReadyH.nil))
                  go_simp
                  have HI := Lib.hid (Is.new (v2) 35 #[.slice none 0 0, .slice none 0 0, .slice none 0 0, .slice none 0 0, .slice none 0 0, .slice none 0 0, .bool false])
                  have HNB : Hid (w8.heap.size ≤ (v2).heap.size) := Lib.hid HG.out.size
                  have HG9 := HG
                  have HG := Lib.hid (HG.out.alloc (.cells #[.slice none 0 0, .slice none 0 0, .slice none 0 0, .slice none 0 0, .slice none 0 0, .slice none 0 0, .bool false] 35))
                  have HF09 := HF0
                  have HF0 := Lib.hid (HF0.out.alloc (.cells #[.slice none 0 0, .slice none 0 0, .slice none 0 0, .slice none 0 0, .slice none 0 0, .slice none 0 0, .bool false] 35))
                  have HF19 := HF1
                  have HF1 := Lib.hid (HF1.out.alloc (.cells #[.slice none 0 0, .slice none 0 0, .slice none 0 0, .slice none 0 0, .slice none 0 0, .slice none 0 0, .bool false] 35))
                  have HF29 := HF2
                  have HF2 := Lib.hid (HF2.out.alloc (.cells #[.slice none 0 0, .slice none 0 0, .slice none 0 0, .slice none 0 0, .slice none 0 0, .slice none 0 0, .bool false] 35))
                  (with_reducible refine hKK.out _ _ (HS.out _ HG.out) (fun hHeld => ?_))
                  clear hKK KK
                  refine wpAnyH_ready (rs := [13]) (by kernel_rfl) (by simp) (AllReadyH.cons rfl (fun KK hKK => ?_) (AllReadyH.nil))
                  go_simp
                  have isr := HI.out
                  obtain ⟨m0, m1, m2, m3, m4, m5, m6⟩ := seven isr
                  have HBN : Hid (Bx w8 ((v2).alloc (.cells #[.slice K2.A1 K2.own.length K2.c1, .slice K2.A2 K2.rts.length K2.c2, .slice K2.A3 K2.pts.length K2.c3, .slice K2.A4 K2.crs.length K2.c4, .slice K2.A5 K2.lns.length K2.c5, .slice K2.A6 K2.rss.length K2.c6, .bool K2.dirty] 35)) (v2).heap.size K2) := Lib.hid ⟨Is.new _ _ _, (HO.out.fr HF29.out fun _ _ => id).fr ((Fr.refl _ _).alloc _) fun _ _ => id, HG9.out.alloc _, HNB.out⟩
                  clear isr
                  (with_reducible refine hKK.out _ _ (HS.out _ HBN.out.f) (fun hHeld => ?_))
                  clear hKK KK
                  clear m0 m1 m2 m3 m4 m5 m6
                  refine wpAnyH_take (i := 14) (oi := { dst := some 12, op := _, type := _, pos := _, after := _, guard := _ }) (v := ?_) rfl (by kernel_rfl) (by kernel_rfl) (by kernel_rfl) (fun _ _ _ h => h) (Or.inl ⟨by rfl, ?_⟩) (by assumption) ?_
                  rotate_left
                  · intro Wx hSw
                    try dsimp only at hSw
                    go_simp
                    try with_reducible rfl
                  try simp only [Act.put, List.setIfInBounds_toArray, List.set_cons_zero, List.set_cons_succ]
                  refine wpAnyH_done (by kernel_rfl) ?_ _
                  go_wp2_with fail
                  go_meet
                  case rel => exact ⟨_, K2, rfl, rfl, HK2.out, HBN.out⟩
                · go_simp
                  have HI := Lib.hid (Is.new (v1) 35 #[.slice none 0 0, .slice none 0 0, .slice none 0 0, .slice none 0 0, .slice none 0 0, .slice none 0 0, .bool false])
                  have HNB : Hid (w8.heap.size ≤ (v1).heap.size) := Lib.hid HG.out.size
                  have HG9 := HG
                  have HG := Lib.hid (HG.out.alloc (.cells #[.slice none 0 0, .slice none 0 0, .slice none 0 0, .slice none 0 0, .slice none 0 0, .slice none 0 0, .bool false] 35))
                  have HF09 := HF0
                  have HF0 := Lib.hid (HF0.out.alloc (.cells #[.slice none 0 0, .slice none 0 0, .slice none 0 0, .slice none 0 0, .slice none 0 0, .slice none 0 0, .bool false] 35))
                  have HF19 := HF1
                  have HF1 := Lib.hid (HF1.out.alloc (.cells #[.slice none 0 0, .slice none 0 0, .slice none 0 0, .slice none 0 0, .slice none 0 0, .slice none 0 0, .bool false] 35))
                  (with_reducible refine hKK.out _ _ (HS.out _ HG.out) (fun hHeld => ?_))
                  clear hKK KK
                  refine wpAnyH_ready (rs := [8]) (by kernel_rfl) (by simp) (AllReadyH.cons rfl (fun KK hKK => ?_) (AllReadyH.nil))
                  go_simp
                  try simp only [h8w]
                  have HGP := HG
                  refine (KT C V _ HCF.out HVP.out _ HG.out (HC.out.fr HF0.out) (HVO.out.fr HF1.out)).mono ?_
                  rintro _ v2 ⟨K2, rfl, hk2, ho2, fa⟩
                  have HG := Lib.hid (fr_nil HG.out fa)
                  have HF0 := Lib.hid (fr_nil HF0.out fa)
                  have HF1 := Lib.hid (fr_nil HF1.out fa)
                  have HF2 := Lib.hid (Fr.refl (fun _ => False) v2)
                  have HI := Lib.hid (HI.out.fr fa id)
                  have HK2 := Lib.hid hk2
                  have HO := Lib.hid (ho2.base HGP.out.size)
                  clear hk2 ho2
                  unfold Km.val Km.arr
                  clear fa
                  (with_reducible refine hKK.out _ _ (HS.out _ HG.out) (fun hHeld => ?_))
                  clear hKK KK
                  refine wpAnyH_take (i := 9) (oi := { dst := some 43, op := _, type := _, pos := _, after := _, guard := _ }) (v := ?_) rfl (by kernel_rfl) (by kernel_rfl) (by kernel_rfl) (fun _ _ _ h => h) (Or.inl ⟨by rfl, ?_⟩) (by assumption) ?_
                  rotate_left
                  · intro Wx hSw
                    try dsimp only at hSw
                    go_simp
                    try with_reducible rfl
                  try simp only [Act.put, List.setIfInBounds_toArray, List.set_cons_zero, List.set_cons_succ]
                  refine wpAnyH_take (i := 10) (oi := { dst := some 53, op := _, type := _, pos := _, after := _, guard := _ }) (v := ?_) rfl (by kernel_rfl) (by kernel_rfl) (by kernel_rfl) (fun _ _ _ h => h) (Or.inl ⟨by rfl, ?_⟩) (by assumption) ?_
                  rotate_left
                  · intro Wx hSw
                    try dsimp only at hSw
                    go_simp
                    try with_reducible rfl
                  try simp only [Act.put, List.setIfInBounds_toArray, List.set_cons_zero, List.set_cons_succ]
                  refine wpAnyH_take (i := 11) (oi := { dst := some 54, op := _, type := _, pos := _, after := _, guard := _ }) (v := ?_) rfl (by kernel_rfl) (by kernel_rfl) (by kernel_rfl) (fun _ _ _ h => h) (Or.inl ⟨by rfl, ?_⟩) (by assumption) ?_
                  rotate_left
                  · intro Wx hSw
                    try dsimp only at hSw
                    go_simp
                    try with_reducible rfl
                  try simp only [Act.put, List.setIfInBounds_toArray, List.set_cons_zero, List.set_cons_succ]
                  refine wpAnyH_ready (rs := [13]) (by kernel_rfl) (by simp) (AllReadyH.cons rfl (fun KK hKK => ?_) (AllReadyH.nil))
                  have isr := HI.out
                  obtain ⟨m0, m1, m2, m3, m4, m5, m6⟩ := seven isr
                  have z0 := isr.frozen 0
                  have z1 := isr.frozen 1
                  have z2 := isr.frozen 2
                  have z3 := isr.frozen 3
                  have z4 := isr.frozen 4
                  have z5 := isr.frozen 5
                  have z6 := isr.frozen 6
                  go_simp
                  have HOn := Lib.hid (HO.out.fr HF2.out fun _ _ => id)
                  have isR := (((((((isr.set 0 (.slice K2.A1 K2.own.length K2.c1)).set 1 (.slice K2.A2 K2.rts.length K2.c2)).set 2 (.slice K2.A3 K2.pts.length K2.c3)).set 3 (.slice K2.A4 K2.crs.length K2.c4)).set 4 (.slice K2.A5 K2.lns.length K2.c5)).set 5 (.slice K2.A6 K2.rss.length K2.c6)).set 6 (.bool K2.dirty))
                  have fR := ((((((((Fr.refl (fun q => q = (v1).heap.size) (v2)).setCell (p := ⟨(v1).heap.size, 0, none⟩) (.inl rfl) (.slice K2.A1 K2.own.length K2.c1)).setCell (p := ⟨(v1).heap.size, 1, none⟩) (.inl rfl) (.slice K2.A2 K2.rts.length K2.c2)).setCell (p := ⟨(v1).heap.size, 2, none⟩) (.inl rfl) (.slice K2.A3 K2.pts.length K2.c3)).setCell (p := ⟨(v1).heap.size, 3, none⟩) (.inl rfl) (.slice K2.A4 K2.crs.length K2.c4)).setCell (p := ⟨(v1).heap.size, 4, none⟩) (.inl rfl) (.slice K2.A5 K2.lns.length K2.c5)).setCell (p := ⟨(v1).heap.size, 5, none⟩) (.inl rfl) (.slice K2.A6 K2.rss.length K2.c6)).setCell (p := ⟨(v1).heap.size, 6, none⟩) (.inl rfl) (.bool K2.dirty))
                  simp only [List.setIfInBounds_toArray, List.set_cons_zero, List.set_cons_succ] at isR
                  have HBN : Hid (Bx w8 ((((((((v2).setCell ⟨(v1).heap.size, 0, none⟩ (.slice K2.A1 K2.own.length K2.c1)).setCell ⟨(v1).heap.size, 1, none⟩ (.slice K2.A2 K2.rts.length K2.c2)).setCell ⟨(v1).heap.size, 2, none⟩ (.slice K2.A3 K2.pts.length K2.c3)).setCell ⟨(v1).heap.size, 3, none⟩ (.slice K2.A4 K2.crs.length K2.c4)).setCell ⟨(v1).heap.size, 4, none⟩ (.slice K2.A5 K2.lns.length K2.c5)).setCell ⟨(v1).heap.size, 5, none⟩ (.slice K2.A6 K2.rss.length K2.c6)).setCell ⟨(v1).heap.size, 6, none⟩ (.bool K2.dirty)) (v1).heap.size K2) := Lib.hid ⟨isR, HOn.out.fr fR fun k hk e => HOn.out.ne_is isr (by decide) (by decide) (by decide) (by decide) (e ▸ hk), (((((((HG.out.setCell (p := ⟨(v1).heap.size, 0, none⟩) (.inr HNB.out) (.slice K2.A1 K2.own.length K2.c1)).setCell (p := ⟨(v1).heap.size, 1, none⟩) (.inr HNB.out) (.slice K2.A2 K2.rts.length K2.c2)).setCell (p := ⟨(v1).heap.size, 2, none⟩) (.inr HNB.out) (.slice K2.A3 K2.pts.length K2.c3)).setCell (p := ⟨(v1).heap.size, 3, none⟩) (.inr HNB.out) (.slice K2.A4 K2.crs.length K2.c4)).setCell (p := ⟨(v1).heap.size, 4, none⟩) (.inr HNB.out) (.slice K2.A5 K2.lns.length K2.c5)).setCell (p := ⟨(v1).heap.size, 5, none⟩) (.inr HNB.out) (.slice K2.A6 K2.rss.length K2.c6)).setCell (p := ⟨(v1).heap.size, 6, none⟩) (.inr HNB.out) (.bool K2.dirty)), HNB.out⟩
                  clear isR fR isr
                  (with_reducible refine hKK.out _ _ (HS.out _ HBN.out.f) (fun hHeld => ?_))
                  clear hKK KK
                  clear m0 m1 m2 m3 m4 m5 m6 z0 z1 z2 z3 z4 z5 z6
                  refine wpAnyH_take (i := 14) (oi := { dst := some 12, op := _, type := _, pos := _, after := _, guard := _ }) (v := ?_) rfl (by kernel_rfl) (by kernel_rfl) (by kernel_rfl) (fun _ _ _ h => h) (Or.inl ⟨by rfl, ?_⟩) (by assumption) ?_
                  rotate_left
                  · intro Wx hSw
                    try dsimp only at hSw
                    go_simp
                    try with_reducible rfl
                  try simp only [Act.put, List.setIfInBounds_toArray, List.set_cons_zero, List.set_cons_succ]
                  refine wpAnyH_done (by kernel_rfl) ?_ _
                  go_wp2_with fail
                  go_meet
                  case rel => exact ⟨_, K2, rfl, rfl, HK2.out, HBN.out⟩
              · go_simp
                have HI := Lib.hid (Is.new (v0) 35 #[.slice none 0 0, .slice none 0 0, .slice none 0 0, .slice none 0 0, .slice none 0 0, .slice none 0 0, .bool false])
                have HNB : Hid (w8.heap.size ≤ (v0).heap.size) := Lib.hid HG.out.size
                have HG9 := HG
                have HG := Lib.hid (HG.out.alloc (.cells #[.slice none 0 0, .slice none 0 0, .slice none 0 0, .slice none 0 0, .slice none 0 0, .slice none 0 0, .bool false] 35))
                have HF09 := HF0
                have HF0 := Lib.hid (HF0.out.alloc (.cells #[.slice none 0 0, .slice none 0 0, .slice none 0 0, .slice none 0 0, .slice none 0 0, .slice none 0 0, .bool false] 35))
                (with_reducible refine hKK.out _ _ (HS.out _ HG.out) (fun hHeld => ?_))
                clear hKK KK
                refine wpAnyH_ready (rs := [5]) (by kernel_rfl) (by simp) (AllReadyH.cons rfl (fun KK hKK => ?_) (AllReadyH.nil))
                go_simp
                try simp only [h8w]
                have HGP := HG
                refine (seen15_any _ n1 _).mono ?_
                rintro _ v1 ⟨V, rfl, hv, hvo, fa⟩
                have HG := Lib.hid (fr_nil HG.out fa)
                have HF0 := Lib.hid (fr_nil HF0.out fa)
                have HF1 := Lib.hid (Fr.refl (fun _ => False) v1)
                have HI := Lib.hid (HI.out.fr fa id)
                have HVP := Lib.hid hv
                have HVO := Lib.hid hvo
                clear hv hvo
                unfold Vm.val Vm.arr
                clear fa
                (with_reducible refine hKK.out _ _ (HS.out _ HG.out) (fun hHeld => ?_))
                clear hKK KK
                refine wpAnyH_ready (rs := [8]) (by kernel_rfl) (by simp) (AllReadyH.cons rfl (fun KK hKK => ?_) (AllReadyH.nil))
                go_simp
                try simp only [h8w]
                have HGP := HG
                refine (KT C V _ HCF.out HVP.out _ HG.out (HC.out.fr HF0.out) (HVO.out.fr HF1.out)).mono ?_
                rintro _ v2 ⟨K2, rfl, hk2, ho2, fa⟩
                have HG := Lib.hid (fr_nil HG.out fa)
                have HF0 := Lib.hid (fr_nil HF0.out fa)
                have HF1 := Lib.hid (fr_nil HF1.out fa)
                have HF2 := Lib.hid (Fr.refl (fun _ => False) v2)
                have HI := Lib.hid (HI.out.fr fa id)
                have HK2 := Lib.hid hk2
                have HO := Lib.hid (ho2.base HGP.out.size)
                clear hk2 ho2
                unfold Km.val Km.arr
                clear fa
                (with_reducible refine hKK.out _ _ (HS.out _ HG.out) (fun hHeld => ?_))
                clear hKK KK
                refine wpAnyH_take (i := 9) (oi := { dst := some 43, op := _, type := _, pos := _, after := _, guard := _ }) (v := ?_) rfl (by kernel_rfl) (by kernel_rfl) (by kernel_rfl) (fun _ _ _ h => h) (Or.inl ⟨by rfl, ?_⟩) (by assumption) ?_
                rotate_left
                · intro Wx hSw
                  try dsimp only at hSw
                  go_simp
                  try with_reducible rfl
                try simp only [Act.put, List.setIfInBounds_toArray, List.set_cons_zero, List.set_cons_succ]
                refine wpAnyH_take (i := 10) (oi := { dst := some 53, op := _, type := _, pos := _, after := _, guard := _ }) (v := ?_) rfl (by kernel_rfl) (by kernel_rfl) (by kernel_rfl) (fun _ _ _ h => h) (Or.inl ⟨by rfl, ?_⟩) (by assumption) ?_
                rotate_left
                · intro Wx hSw
                  try dsimp only at hSw
                  go_simp
                  try with_reducible rfl
                try simp only [Act.put, List.setIfInBounds_toArray, List.set_cons_zero, List.set_cons_succ]
                refine wpAnyH_take (i := 11) (oi := { dst := some 54, op := _, type := _, pos := _, after := _, guard := _ }) (v := ?_) rfl (by kernel_rfl) (by kernel_rfl) (by kernel_rfl) (fun _ _ _ h => h) (Or.inl ⟨by rfl, ?_⟩) (by assumption) ?_
                rotate_left
                · intro Wx hSw
                  try dsimp only at hSw
                  go_simp
                  try with_reducible rfl
                try simp only [Act.put, List.setIfInBounds_toArray, List.set_cons_zero, List.set_cons_succ]
                refine wpAnyH_ready (rs := [13]) (by kernel_rfl) (by simp) (AllReadyH.cons rfl (fun KK hKK => ?_) (AllReadyH.nil))
                have isr := HI.out
                obtain ⟨m0, m1, m2, m3, m4, m5, m6⟩ := seven isr
                have z0 := isr.frozen 0
                have z1 := isr.frozen 1
                have z2 := isr.frozen 2
                have z3 := isr.frozen 3
                have z4 := isr.frozen 4
                have z5 := isr.frozen 5
                have z6 := isr.frozen 6
                go_simp
                have HOn := Lib.hid (HO.out.fr HF2.out fun _ _ => id)
                have isR := (((((((isr.set 0 (.slice K2.A1 K2.own.length K2.c1)).set 1 (.slice K2.A2 K2.rts.length K2.c2)).set 2 (.slice K2.A3 K2.pts.length K2.c3)).set 3 (.slice K2.A4 K2.crs.length K2.c4)).set 4 (.slice K2.A5 K2.lns.length K2.c5)).set 5 (.slice K2.A6 K2.rss.length K2.c6)).set 6 (.bool K2.dirty))
                have fR := ((((((((Fr.refl (fun q => q = (v0).heap.size) (v2)).setCell (p := ⟨(v0).heap.size, 0, none⟩) (.inl rfl) (.slice K2.A1 K2.own.length K2.c1)).setCell (p := ⟨(v0).heap.size, 1, none⟩) (.inl rfl) (.slice K2.A2 K2.rts.length K2.c2)).setCell (p := ⟨(v0).heap.size, 2, none⟩) (.inl rfl) (.slice K2.A3 K2.pts.length K2.c3)).setCell (p := ⟨(v0).heap.size, 3, none⟩) (.inl rfl) (.slice K2.A4 K2.crs.length K2.c4)).setCell (p := ⟨(v0).heap.size, 4, none⟩) (.inl rfl) (.slice K2.A5 K2.lns.length K2.c5)).setCell (p := ⟨(v0).heap.size, 5, none⟩) (.inl rfl) (.slice K2.A6 K2.rss.length K2.c6)).setCell (p := ⟨(v0).heap.size, 6, none⟩) (.inl rfl) (.bool K2.dirty))
                simp only [List.setIfInBounds_toArray, List.set_cons_zero, List.set_cons_succ] at isR
                have HBN : Hid (Bx w8 ((((((((v2).setCell ⟨(v0).heap.size, 0, none⟩ (.slice K2.A1 K2.own.length K2.c1)).setCell ⟨(v0).heap.size, 1, none⟩ (.slice K2.A2 K2.rts.length K2.c2)).setCell ⟨(v0).heap.size, 2, none⟩ (.slice K2.A3 K2.pts.length K2.c3)).setCell ⟨(v0).heap.size, 3, none⟩ (.slice K2.A4 K2.crs.length K2.c4)).setCell ⟨(v0).heap.size, 4, none⟩ (.slice K2.A5 K2.lns.length K2.c5)).setCell ⟨(v0).heap.size, 5, none⟩ (.slice K2.A6 K2.rss.length K2.c6)).setCell ⟨(v0).heap.size, 6, none⟩ (.bool K2.dirty)) (v0).heap.size K2) := Lib.hid ⟨isR, HOn.out.fr fR fun k hk e => HOn.out.ne_is isr (by decide) (by decide) (by decide) (by decide) (e ▸ hk), (((((((HG.out.setCell (p := ⟨(v0).heap.size, 0, none⟩) (.inr HNB.out) (.slice K2.A1 K2.own.length K2.c1)).setCell (p := ⟨(v0).heap.size, 1, none⟩) (.inr HNB.out) (.slice K2.A2 K2.rts.length K2.c2)).setCell (p := ⟨(v0).heap.size, 2, none⟩) (.inr HNB.out) (.slice K2.A3 K2.pts.length K2.c3)).setCell (p := ⟨(v0).heap.size, 3, none⟩) (.inr HNB.out) (.slice K2.A4 K2.crs.length K2.c4)).setCell (p := ⟨(v0).heap.size, 4, none⟩) (.inr HNB.out) (.slice K2.A5 K2.lns.length K2.c5)).setCell (p := ⟨(v0).heap.size, 5, none⟩) (.inr HNB.out) (.slice K2.A6 K2.rss.length K2.c6)).setCell (p := ⟨(v0).heap.size, 6, none⟩) (.inr HNB.out) (.bool K2.dirty)), HNB.out⟩
                clear isR fR isr
                (with_reducible refine hKK.out _ _ (HS.out _ HBN.out.f) (fun hHeld => ?_))
                clear hKK KK
                clear m0 m1 m2 m3 m4 m5 m6 z0 z1 z2 z3 z4 z5 z6
                refine wpAnyH_take (i := 14) (oi := { dst := some 12, op := _, type := _, pos := _, after := _, guard := _ }) (v := ?_) rfl (by kernel_rfl) (by kernel_rfl) (by kernel_rfl) (fun _ _ _ h => h) (Or.inl ⟨by rfl, ?_⟩) (by assumption) ?_
                rotate_left
                · intro Wx hSw
                  try dsimp only at hSw
                  go_simp
                  try with_reducible rfl
                try simp only [Act.put, List.setIfInBounds_toArray, List.set_cons_zero, List.set_cons_succ]
                refine wpAnyH_done (by kernel_rfl) ?_ _
                go_wp2_with fail
                go_meet
                case rel => exact ⟨_, K2, rfl, rfl, HK2.out, HBN.out⟩
            · go_simp
              have HI := Lib.hid (Is.new (wdr) 35 #[.slice none 0 0, .slice none 0 0, .slice none 0 0, .slice none 0 0, .slice none 0 0, .slice none 0 0, .bool false])
              have HNB : Hid (w8.heap.size ≤ (wdr).heap.size) := Lib.hid HG.out.size
              have HG9 := HG
              have HG := Lib.hid (HG.out.alloc (.cells #[.slice none 0 0, .slice none 0 0, .slice none 0 0, .slice none 0 0, .slice none 0 0, .slice none 0 0, .bool false] 35))
              (with_reducible refine hKK.out _ _ (HS.out _ HG.out) (fun hHeld => ?_))
              clear hKK KK
              refine wpAnyH_ready (rs := [0]) (by kernel_rfl) (by simp) (AllReadyH.cons rfl (fun KK hKK => ?_) (AllReadyH.nil))
              go_simp
              try simp only [h8w]
              have HGP := HG
              refine (end15_any _).mono ?_
              rintro _ v0 ⟨C, rfl, hcf, -, hC, fa⟩
              have HG := Lib.hid (fr_nil HG.out fa)
              have HF0 := Lib.hid (Fr.refl (fun _ => False) v0)
              have HI := Lib.hid (HI.out.fr fa id)
              have HCF := Lib.hid hcf
              have HC := Lib.hid hC
              clear hcf hC
              unfold Cm.val Cm.arr
              clear fa
              (with_reducible refine hKK.out _ _ (HS.out _ HG.out) (fun hHeld => ?_))
              clear hKK KK
              refine wpAnyH_ready (rs := [5]) (by kernel_rfl) (by simp) (AllReadyH.cons rfl (fun KK hKK => ?_) (AllReadyH.nil))
              go_simp
              try simp only [h8w]
              have HGP := HG
              refine (seen15_any _ n1 _).mono ?_
              rintro _ v1 ⟨V, rfl, hv, hvo, fa⟩
              have HG := Lib.hid (fr_nil HG.out fa)
              have HF0 := Lib.hid (fr_nil HF0.out fa)
              have HF1 := Lib.hid (Fr.refl (fun _ => False) v1)
              have HI := Lib.hid (HI.out.fr fa id)
              have HVP := Lib.hid hv
              have HVO := Lib.hid hvo
              clear hv hvo
              unfold Vm.val Vm.arr
              clear fa
              (with_reducible refine hKK.out _ _ (HS.out _ HG.out) (fun hHeld => ?_))
              clear hKK KK
              refine wpAnyH_ready (rs := [8]) (by kernel_rfl) (by simp) (AllReadyH.cons rfl (fun KK hKK => ?_) (AllReadyH.nil))
              go_simp
              try simp only [h8w]
              have HGP := HG
              refine (KT C V _ HCF.out HVP.out _ HG.out (HC.out.fr HF0.out) (HVO.out.fr HF1.out)).mono ?_
              rintro _ v2 ⟨K2, rfl, hk2, ho2, fa⟩
              have HG := Lib.hid (fr_nil HG.out fa)
              have HF0 := Lib.hid (fr_nil HF0.out fa)
              have HF1 := Lib.hid (fr_nil HF1.out fa)
              have HF2 := Lib.hid (Fr.refl (fun _ => False) v2)
              have HI := Lib.hid (HI.out.fr fa id)
              have HK2 := Lib.hid hk2
              have HO := Lib.hid (ho2.base HGP.out.size)
              clear hk2 ho2
              unfold Km.val Km.arr
              clear fa
              (with_reducible refine hKK.out _ _ (HS.out _ HG.out) (fun hHeld => ?_))
              clear hKK KK
              refine wpAnyH_take (i := 9) (oi := { dst := some 43, op := _, type := _, pos := _, after := _, guard := _ }) (v := ?_) rfl (by kernel_rfl) (by kernel_rfl) (by kernel_rfl) (fun _ _ _ h => h) (Or.inl ⟨by rfl, ?_⟩) (by assumption) ?_
              rotate_left
              · intro Wx hSw
                try dsimp only at hSw
                go_simp
                try with_reducible rfl
              try simp only [Act.put, List.setIfInBounds_toArray, List.set_cons_zero, List.set_cons_succ]
              refine wpAnyH_take (i := 10) (oi := { dst := some 53, op := _, type := _, pos := _, after := _, guard := _ }) (v := ?_) rfl (by kernel_rfl) (by kernel_rfl) (by kernel_rfl) (fun _ _ _ h => h) (Or.inl ⟨by rfl, ?_⟩) (by assumption) ?_
              rotate_left
              · intro Wx hSw
                try dsimp only at hSw
                go_simp
                try with_reducible rfl
              try simp only [Act.put, List.setIfInBounds_toArray, List.set_cons_zero, List.set_cons_succ]
              refine wpAnyH_take (i := 11) (oi := { dst := some 54, op := _, type := _, pos := _, after := _, guard := _ }) (v := ?_) rfl (by kernel_rfl) (by kernel_rfl) (by kernel_rfl) (fun _ _ _ h => h) (Or.inl ⟨by rfl, ?_⟩) (by assumption) ?_
              rotate_left
              · intro Wx hSw
                try dsimp only at hSw
                go_simp
                try with_reducible rfl
              try simp only [Act.put, List.setIfInBounds_toArray, List.set_cons_zero, List.set_cons_succ]
              refine wpAnyH_ready (rs := [13]) (by kernel_rfl) (by simp) (AllReadyH.cons rfl (fun KK hKK => ?_) (AllReadyH.nil))
              have isr := HI.out
              obtain ⟨m0, m1, m2, m3, m4, m5, m6⟩ := seven isr
              have z0 := isr.frozen 0
              have z1 := isr.frozen 1
              have z2 := isr.frozen 2
              have z3 := isr.frozen 3
              have z4 := isr.frozen 4
              have z5 := isr.frozen 5
              have z6 := isr.frozen 6
              go_simp
              have HOn := Lib.hid (HO.out.fr HF2.out fun _ _ => id)
              have isR := (((((((isr.set 0 (.slice K2.A1 K2.own.length K2.c1)).set 1 (.slice K2.A2 K2.rts.length K2.c2)).set 2 (.slice K2.A3 K2.pts.length K2.c3)).set 3 (.slice K2.A4 K2.crs.length K2.c4)).set 4 (.slice K2.A5 K2.lns.length K2.c5)).set 5 (.slice K2.A6 K2.rss.length K2.c6)).set 6 (.bool K2.dirty))
              have fR := ((((((((Fr.refl (fun q => q = (wdr).heap.size) (v2)).setCell (p := ⟨(wdr).heap.size, 0, none⟩) (.inl rfl) (.slice K2.A1 K2.own.length K2.c1)).setCell (p := ⟨(wdr).heap.size, 1, none⟩) (.inl rfl) (.slice K2.A2 K2.rts.length K2.c2)).setCell (p := ⟨(wdr).heap.size, 2, none⟩) (.inl rfl) (.slice K2.A3 K2.pts.length K2.c3)).setCell (p := ⟨(wdr).heap.size, 3, none⟩) (.inl rfl) (.slice K2.A4 K2.crs.length K2.c4)).setCell (p := ⟨(wdr).heap.size, 4, none⟩) (.inl rfl) (.slice K2.A5 K2.lns.length K2.c5)).setCell (p := ⟨(wdr).heap.size, 5, none⟩) (.inl rfl) (.slice K2.A6 K2.rss.length K2.c6)).setCell (p := ⟨(wdr).heap.size, 6, none⟩) (.inl rfl) (.bool K2.dirty))
              simp only [List.setIfInBounds_toArray, List.set_cons_zero, List.set_cons_succ] at isR
              have HBN : Hid (Bx w8 ((((((((v2).setCell ⟨(wdr).heap.size, 0, none⟩ (.slice K2.A1 K2.own.length K2.c1)).setCell ⟨(wdr).heap.size, 1, none⟩ (.slice K2.A2 K2.rts.length K2.c2)).setCell ⟨(wdr).heap.size, 2, none⟩ (.slice K2.A3 K2.pts.length K2.c3)).setCell ⟨(wdr).heap.size, 3, none⟩ (.slice K2.A4 K2.crs.length K2.c4)).setCell ⟨(wdr).heap.size, 4, none⟩ (.slice K2.A5 K2.lns.length K2.c5)).setCell ⟨(wdr).heap.size, 5, none⟩ (.slice K2.A6 K2.rss.length K2.c6)).setCell ⟨(wdr).heap.size, 6, none⟩ (.bool K2.dirty)) (wdr).heap.size K2) := Lib.hid ⟨isR, HOn.out.fr fR fun k hk e => HOn.out.ne_is isr (by decide) (by decide) (by decide) (by decide) (e ▸ hk), (((((((HG.out.setCell (p := ⟨(wdr).heap.size, 0, none⟩) (.inr HNB.out) (.slice K2.A1 K2.own.length K2.c1)).setCell (p := ⟨(wdr).heap.size, 1, none⟩) (.inr HNB.out) (.slice K2.A2 K2.rts.length K2.c2)).setCell (p := ⟨(wdr).heap.size, 2, none⟩) (.inr HNB.out) (.slice K2.A3 K2.pts.length K2.c3)).setCell (p := ⟨(wdr).heap.size, 3, none⟩) (.inr HNB.out) (.slice K2.A4 K2.crs.length K2.c4)).setCell (p := ⟨(wdr).heap.size, 4, none⟩) (.inr HNB.out) (.slice K2.A5 K2.lns.length K2.c5)).setCell (p := ⟨(wdr).heap.size, 5, none⟩) (.inr HNB.out) (.slice K2.A6 K2.rss.length K2.c6)).setCell (p := ⟨(wdr).heap.size, 6, none⟩) (.inr HNB.out) (.bool K2.dirty)), HNB.out⟩
              clear isR fR isr
              (with_reducible refine hKK.out _ _ (HS.out _ HBN.out.f) (fun hHeld => ?_))
              clear hKK KK
              clear m0 m1 m2 m3 m4 m5 m6 z0 z1 z2 z3 z4 z5 z6
              refine wpAnyH_take (i := 14) (oi := { dst := some 12, op := _, type := _, pos := _, after := _, guard := _ }) (v := ?_) rfl (by kernel_rfl) (by kernel_rfl) (by kernel_rfl) (fun _ _ _ h => h) (Or.inl ⟨by rfl, ?_⟩) (by assumption) ?_
              rotate_left
              · intro Wx hSw
                try dsimp only at hSw
                go_simp
                try with_reducible rfl
              try simp only [Act.put, List.setIfInBounds_toArray, List.set_cons_zero, List.set_cons_succ]
              refine wpAnyH_done (by kernel_rfl) ?_ _
              go_wp2_with fail
              go_meet
              case rel => exact ⟨_, K2, rfl, rfl, HK2.out, HBN.out⟩
          case rest =>
            obtain ⟨n2, K2, rfl, rfl, hk2, hb2⟩ := hcut
            have HB2 := Lib.hid hb2
            have HK2 := Lib.hid hk2
            have HB := Lib.hid (HB.out.fr hb2.f)
            have HWB := Lib.hid (HWB.out.fr hb2.f id)
            clear hk2 hb2
            obtain ⟨g1, o1, g5, o5, c0, d0, c1, c2, c3, c4, c5, c6, KL⟩ := look_at HB2.out HK2.out
            dsimp only [lnG] at KL
            obtain ⟨b0, b1, b2⟩ := three_cells HWB.out
            go_upto_region 17 with fail
            clear h8
            have c0 := cell_fro c0
            have d0 := cell_fro d0
            have c1 := cell_fro c1
            have c2 := cell_fro c2
            have c3 := cell_fro c3
            have c4 := cell_fro c4
            have c5 := cell_fro c5
            have c6 := cell_fro c6
            have b0 := cell_fro b0
            have b1 := cell_fro b1
            have b2 := cell_fro b2
            have KL := fun u : Fro wc => KL u.w u.f
            refine region_fro (by kernel_rfl) (by kernel_rfl) ?_
            repeat (go_big_quiet_step (first | (go_at_call 12; with_reducible exact call_fro (KL _))))
            refine wpQuiet_nil ?_
            rintro w9 ⟨⟨w9b, f3⟩, hww⟩
            replace hww : w9 = w9b := hww
            subst hww
            clear c0 d0 c1 c2 c3 c4 c5 c6 b0 b1 b2 KL
            have HB2 := Lib.hid (HB2.out.fr f3)
            have HB := Lib.hid (HB.out.fr f3)
            have HWB := Lib.hid (HWB.out.fr f3 id)
            clear f3
            obtain ⟨c0, c1, c2, c3, c4, c5, c6⟩ := Bk.core7 (K := K2) HB2.out.is
            have isr := HB.out.is
            unfold Km.arr at isr
            obtain ⟨m0, m1, m2, m3, m4, m5, m6⟩ := seven isr
            have z0 := isr.frozen 0
            have z1 := isr.frozen 1
            have z2 := isr.frozen 2
            have z3 := isr.frozen 3
            have z4 := isr.frozen 4
            have z5 := isr.frozen 5
            have z6 := isr.frozen 6
            have i9 : wrap64 ((k : Int) + 1) = ((k + 1 : Nat) : Int) := by rw [IntWalk.wrap64_in _ ⟨by omega, by have := H60.out; omega⟩]; omega
            obtain ⟨W, hW, hiW, fR⟩ := put_box isr K2
            have hown := (HB2.out.own.base HSZ.out).fr fR fun q hq e => HB2.out.own.ne_is isr (by decide) (by decide) (by decide) (by decide) (e ▸ hq)
            have HN := Lib.hid (show Bx w3 W kb K2 from ⟨hiW, hown, HB.out.f.trans fR fun q hq e => by have := HB.out.hb; omega, HB.out.hb⟩)
            have HWN := Lib.hid (HWB.out.fr fR (is_ne HWB.out HB.out.is (by decide)))
            have HWQ := Lib.hid hW
            clear hW hiW fR hown isr
            go_wp2_with fail
            rw [HWQ.out]
            rw [← HA1.out]
            go_roundg (l.length - (k + 1))
            case measure => have := HLT.out; omega
            case rel => exact ⟨k + 1, K2, HLT.out, rfl, by first | rw [i9] | rfl, HK2.out, HN.out, HWN.out⟩
        · skip
          have c6 : wr.cell? ⟨kb, 6, none⟩ = some (.bool K.dirty) := HB.out.is.cell 6
          have z6 := HB.out.is.frozen 6
          have HB9 := Lib.hid (HB.out.dirt false)
          have HK9 := Lib.hid (dirt_kp HK.out false)
          have HWB9 := Lib.hid (HWB.out.fr ((Fr.refl (fun q => q = kb) wr).setCell (p := ⟨kb, 6, none⟩) (.inl rfl) (.bool false)) (is_ne HWB.out HB.out.is (by decide)))
          go_upto_region 16 with fail
          clear c6 z6 q0 i1 i2 e1 e2 e3 HB HK HWB
          generalize wr.setCell _ _ = w8 at *
          generalize ({ K with dirty := false } : Km) = K8 at *
          generalize K8 = K at *
          have HB := HB9
          have HK := HK9
          have HWB := HWB9
          clear HB9 HK9 HWB9
          have HSZ := Lib.hid HB.out.f.size
          obtain ⟨n1, hn1⟩ : ∃ n1 : Int, n1 = (k : Int) + 1 := ⟨_, rfl⟩
          have h8 : wrap64 ((k : Int) + 1) = n1 := by rw [IntWalk.wrap64_in _ ⟨by omega, by have := H60.out; omega⟩]; exact hn1.symm
          have HN1 : Hid (n1 = (k : Int) + 1 ∧ 0 ≤ n1 ∧ n1 ≤ 100) := Lib.hid (by have := H60.out; omega)
          clear hn1
          go_cut [11, 12] from 43 to 55 (fun v11 v12 wx => ∃ (n2 : Nat) (K2 : Km), v11 = .pointer (some ⟨n2, 0, none⟩) ∧ v12 = .int .i64 0 ∧ K2.kp = endK 0 0 default (lnG 0 0 d d 0) false ∧ Bx w8 wx n2 K2)
          case first =>
            have hok := okG (o := 0) (gr := 0) (told := 0) (pa := d) (pd := d) (since := 0) (by decide) (by decide) (by decide) (by have := HD.out; omega) (by have := HD.out; omega) (by decide)
            have h8w : IntKind.i64.wrap ((k : Int) + 1) = n1 := (IntWalk.i64_left _).trans h8
            have htm : tmB n1 = true := tm_ok (by have := HN1.out; omega) (by have := HN1.out; omega)
            have KT : ∀ (C : Cm) (V : Vm) (oc : Int), C.cf = endF → V.vp = seenV oc n1 → ∀ W, Fr (fun _ => False) w8 W → C.Ok W → V.Ok W → Calls Try.prog 7 #[.agg #[.slice C.A1 C.l.length C.c1, .slice C.A2 C.js.length C.c2, .slice C.A3 C.sg.length C.c3, .slice C.A4 C.cr.length C.c4, .slice C.A5 C.rs.length C.c5, .int .i64 C.tm.age, .int .i64 C.tm.brake, .int .i64 C.tm.hold, .int .i64 C.tm.budget], .agg #[.slice K.A1 K.own.length K.c1, .slice K.A2 K.rts.length K.c2, .slice K.A3 K.pts.length K.c3, .slice K.A4 K.crs.length K.c4, .slice K.A5 K.lns.length K.c5, .slice K.A6 K.rss.length K.c6, .bool K.dirty], .agg #[.slice V.A1 V.occ.length V.c1, .slice V.A2 V.pos.length V.c2, .slice V.A3 V.shut.length V.c3, .slice V.A4 V.lamp.length V.c4], .int .i64 n1] W (Out W (endK 0 0 default (lnG 0 0 d d 0) false, 0)) := fun C V oc hcf hv W f hC hV => by
              have := bstep_any hC (endK_ok (HB.out.own.fr f fun _ _ => id) HK.out hok) hV n1
              rw [hv, hcf, HK.out, end_step hok htm, sQ] at this
              exact this
            have HS : Hid (∀ W, Fr (fun _ => False) w8 W → (fun Wx => Wx.cell? ⟨kb, 0, none⟩ = some (.slice K.A1 K.own.length K.c1) ∧ Wx.cell? ⟨kb, 1, none⟩ = some (.slice K.A2 K.rts.length K.c2) ∧ Wx.cell? ⟨kb, 2, none⟩ = some (.slice K.A3 K.pts.length K.c3) ∧ Wx.cell? ⟨kb, 3, none⟩ = some (.slice K.A4 K.crs.length K.c4) ∧ Wx.cell? ⟨kb, 4, none⟩ = some (.slice K.A5 K.lns.length K.c5) ∧ Wx.cell? ⟨kb, 5, none⟩ = some (.slice K.A6 K.rss.length K.c6) ∧ Wx.cell? ⟨kb, 6, none⟩ = some (.bool K.dirty)) W) := Lib.hid fun W fW => Bk.core7 (K := K) (HB.out.is.fr fW id)
            have HG := Lib.hid (Fr.refl (fun _ => False) w8).drew
            refine wp_region_held_drew (S := (fun Wx => Wx.cell? ⟨kb, 0, none⟩ = some (.slice K.A1 K.own.length K.c1) ∧ Wx.cell? ⟨kb, 1, none⟩ = some (.slice K.A2 K.rts.length K.c2) ∧ Wx.cell? ⟨kb, 2, none⟩ = some (.slice K.A3 K.pts.length K.c3) ∧ Wx.cell? ⟨kb, 3, none⟩ = some (.slice K.A4 K.crs.length K.c4) ∧ Wx.cell? ⟨kb, 4, none⟩ = some (.slice K.A5 K.lns.length K.c5) ∧ Wx.cell? ⟨kb, 5, none⟩ = some (.slice K.A6 K.rss.length K.c6) ∧ Wx.cell? ⟨kb, 6, none⟩ = some (.bool K.dirty))) (by kernel_rfl) (HS.out _ (Fr.refl _ w8).drew) (fun hHeld => ?_)
            generalize w8.drew = wdr at *
            refine wpAnyH_take (i := 1) (oi := { dst := some 45, op := _, type := _, pos := _, after := _, guard := _ }) (v := ?_) rfl (by kernel_rfl) (by kernel_rfl) (by kernel_rfl) (fun _ _ _ h => h) (Or.inl ⟨by rfl, ?_⟩) (by assumption) ?_
            rotate_left
            · intro Wx hSw
              try dsimp only at hSw
              go_simp
              try with_reducible rfl
            try simp only [Act.put, List.setIfInBounds_toArray, List.set_cons_zero, List.set_cons_succ]
            refine wpAnyH_take (i := 2) (oi := { dst := some 46, op := _, type := _, pos := _, after := _, guard := _ }) (v := ?_) rfl (by kernel_rfl) (by kernel_rfl) (by kernel_rfl) (fun _ _ _ h => h) (Or.inl ⟨by rfl, ?_⟩) (by assumption) ?_
            rotate_left
            · intro Wx hSw
              try dsimp only at hSw
              go_simp
              try with_reducible rfl
            try simp only [Act.put, List.setIfInBounds_toArray, List.set_cons_zero, List.set_cons_succ]
            refine wpAnyH_take (i := 3) (oi := { dst := some 47, op := _, type := _, pos := _, after := _, guard := _ }) (v := ?_) rfl (by kernel_rfl) (by kernel_rfl) (by kernel_rfl) (fun _ _ _ h => h) (Or.inl ⟨by rfl, ?_⟩) (by assumption) ?_
            rotate_left
            · intro Wx hSw
              try dsimp only at hSw
              go_simp
              try with_reducible rfl
            try simp only [Act.put, List.setIfInBounds_toArray, List.set_cons_zero, List.set_cons_succ]
            refine wpAnyH_take (i := 4) (oi := { dst := some 48, op := _, type := _, pos := _, after := _, guard := _ }) (v := ?_) rfl (by kernel_rfl) (by kernel_rfl) (by kernel_rfl) (fun _ _ _ h => h) (Or.inl ⟨by rfl, ?_⟩) (by assumption) ?_
            rotate_left
            · intro Wx hSw
              try dsimp only at hSw
              go_simp
              try with_reducible rfl
            try simp only [Act.put, List.setIfInBounds_toArray, List.set_cons_zero, List.set_cons_succ]
            refine wpAnyH_take (i := 6) (oi := { dst := some 50, op := _, type := _, pos := _, after := _, guard := _ }) (v := ?_) rfl (by kernel_rfl) (by kernel_rfl) (by kernel_rfl) (fun _ _ _ h => h) (Or.inl ⟨by rfl, ?_⟩) (by assumption) ?_
            rotate_left
            · intro Wx hSw
              try dsimp only at hSw
              go_simp
              try with_reducible rfl
            try simp only [Act.put, List.setIfInBounds_toArray, List.set_cons_zero, List.set_cons_succ]
            refine wpAnyH_take (i := 7) (oi := { dst := some 51, op := _, type := _, pos := _, after := _, guard := _ }) (v := ?_) rfl (by kernel_rfl) (by kernel_rfl) (by kernel_rfl) (fun _ _ _ h => h) (Or.inl ⟨by rfl, ?_⟩) (by assumption) ?_
            rotate_left
            · intro Wx hSw
              try dsimp only at hSw
              go_simp
              try with_reducible rfl
            try simp only [Act.put, List.setIfInBounds_toArray, List.set_cons_zero, List.set_cons_succ]
            refine wpAnyH_ready (rs := [0, 12]) (by kernel_rfl) (by simp) (AllReadyH.cons rfl (fun KK hKK => ?_) (AllReadyH.cons rfl (fun KK hKK => ?_) (AllReadyH.nil)))
            · go_simp
              try simp only [h8w]
              have HGP := HG
              refine (end15_any _).mono ?_
              rintro _ v0 ⟨C, rfl, hcf, -, hC, fa⟩
              have HG := Lib.hid (fr_nil HG.out fa)
              have HF0 := Lib.hid (Fr.refl (fun _ => False) v0)
              have HCF := Lib.hid hcf
              have HC := Lib.hid hC
              clear hcf hC
              unfold Cm.val Cm.arr
              clear fa
              (with_reducible refine hKK.out _ _ (HS.out _ HG.out) (fun hHeld => ?_))
              clear hKK KK
              refine wpAnyH_ready (rs := [5, 12]) (by kernel_rfl) (by simp) (AllReadyH.cons rfl (fun KK hKK => ?_) (AllReadyH.cons rfl (fun KK hKK => ?_) (AllReadyH.nil)))
              · go_simp
                try simp only [h8w]
                have HGP := HG
                refine (seen15_any _ n1 _).mono ?_
                rintro _ v1 ⟨V, rfl, hv, hvo, fa⟩
                have HG := Lib.hid (fr_nil HG.out fa)
                have HF0 := Lib.hid (fr_nil HF0.out fa)
                have HF1 := Lib.hid (Fr.refl (fun _ => False) v1)
                have HVP := Lib.hid hv
                have HVO := Lib.hid hvo
                clear hv hvo
                unfold Vm.val Vm.arr
                clear fa
                (with_reducible refine hKK.out _ _ (HS.out _ HG.out) (fun hHeld => ?_))
                clear hKK KK
                refine wpAnyH_ready (rs := [8, 12]) (by kernel_rfl) (by simp) (AllReadyH.cons rfl (fun KK hKK => ?_) (AllReadyH.cons rfl (fun KK hKK => ?_) (AllReadyH.nil)))
                · go_simp
                  try simp only [h8w]
                  have HGP := HG
                  refine (KT C V _ HCF.out HVP.out _ HG.out (HC.out.fr HF0.out) (HVO.out.fr HF1.out)).mono ?_
                  rintro _ v2 ⟨K2, rfl, hk2, ho2, fa⟩
                  have HG := Lib.hid (fr_nil HG.out fa)
                  have HF0 := Lib.hid (fr_nil HF0.out fa)
                  have HF1 := Lib.hid (fr_nil HF1.out fa)
                  have HF2 := Lib.hid (Fr.refl (fun _ => False) v2)
                  have HK2 := Lib.hid hk2
                  have HO := Lib.hid (ho2.base HGP.out.size)
                  clear hk2 ho2
                  unfold Km.val Km.arr
                  clear fa
                  (with_reducible refine hKK.out _ _ (HS.out _ HG.out) (fun hHeld => ?_))
                  clear hKK KK
                  refine wpAnyH_take (i := 9) (oi := { dst := some 43, op := _, type := _, pos := _, after := _, guard := _ }) (v := ?_) rfl (by kernel_rfl) (by kernel_rfl) (by kernel_rfl) (fun _ _ _ h => h) (Or.inl ⟨by rfl, ?_⟩) (by assumption) ?_
                  rotate_left
                  · intro Wx hSw
                    try dsimp only at hSw
                    go_simp
                    try with_reducible rfl
                  try simp only [Act.put, List.setIfInBounds_toArray, List.set_cons_zero, List.set_cons_succ]
                  refine wpAnyH_take (i := 10) (oi := { dst := some 53, op := _, type := _, pos := _, after := _, guard := _ }) (v := ?_) rfl (by kernel_rfl) (by kernel_rfl) (by kernel_rfl) (fun _ _ _ h => h) (Or.inl ⟨by rfl, ?_⟩) (by assumption) ?_
                  rotate_left
                  · intro Wx hSw
                    try dsimp only at hSw
                    go_simp
                    try with_reducible rfl
                  try simp only [Act.put, List.setIfInBounds_toArray, List.set_cons_zero, List.set_cons_succ]
                  refine wpAnyH_take (i := 11) (oi := { dst := some 54, op := _, type := _, pos := _, after := _, guard := _ }) (v := ?_) rfl (by kernel_rfl) (by kernel_rfl) (by kernel_rfl) (fun _ _ _ h => h) (Or.inl ⟨by rfl, ?_⟩) (by assumption) ?_
                  rotate_left
                  · intro Wx hSw
                    try dsimp only at hSw
                    go_simp
                    try with_reducible rfl
                  try simp only [Act.put, List.setIfInBounds_toArray, List.set_cons_zero, List.set_cons_succ]
                  refine wpAnyH_ready (rs := [12]) (by kernel_rfl) (by simp) (AllReadyH.cons rfl (fun KK hKK => ?_) (AllReadyH.nil))
                  go_simp
                  have HI := Lib.hid (Is.new (v2) 35 #[.slice none 0 0, .slice none 0 0, .slice none 0 0, .slice none 0 0, .slice none 0 0, .slice none 0 0, .bool false])
                  have HNB : Hid (w8.heap.size ≤ (v2).heap.size) := Lib.hid HG.out.size
                  have HG9 := HG
                  have HG := Lib.hid (HG.out.alloc (.cells #[.slice none 0 0, .slice none 0 0, .slice none 0 0, .slice none 0 0, .slice none 0 0, .slice none 0 0, .bool false] 35))
                  have HF09 := HF0
                  have HF0 := Lib.hid (HF0.out.alloc (.cells #[.slice none 0 0, .slice none 0 0, .slice none 0 0, .slice none 0 0, .slice none 0 0, .slice none 0 0, .bool false] 35))
                  have HF19 := HF1
                  have HF1 := Lib.hid (HF1.out.alloc (.cells #[.slice none 0 0, .slice none 0 0, .slice none 0 0, .slice none 0 0, .slice none 0 0, .slice none 0 0, .bool false] 35))
                  have HF29 := HF2
                  have HF2 := Lib.hid (HF2.out.alloc (.cells #[.slice none 0 0, .slice none 0 0, .slice none 0 0, .slice none 0 0, .slice none 0 0, .slice none 0 0, .bool false] 35))
                  (with_reducible refine hKK.out _ _ (HS.out _ HG.out) (fun hHeld => ?_))
                  clear hKK KK
                  refine wpAnyH_ready (rs := [13]) (by kernel_rfl) (by simp) (AllReadyH.cons rfl (fun KK hKK => ?_) (AllReadyH.nil))
                  go_simp
                  have isr := HI.out
                  obtain ⟨m0, m1, m2, m3, m4, m5, m6⟩ := seven isr
                  have HBN : Hid (Bx w8 ((v2).alloc (.cells #[.slice K2.A1 K2.own.length K2.c1, .slice K2.A2 K2.rts.length K2.c2, .slice K2.A3 K2.pts.length K2.c3, .slice K2.A4 K2.crs.length K2.c4, .slice K2.A5 K2.lns.length K2.c5, .slice K2.A6 K2.rss.length K2.c6, .bool K2.dirty] 35)) (v2).heap.size K2) := Lib.hid ⟨Is.new _ _ _, (HO.out.fr HF29.out fun _ _ => id).fr ((Fr.refl _ _).alloc _) fun _ _ => id, HG9.out.alloc _, HNB.out⟩
                  clear isr
                  (with_reducible refine hKK.out _ _ (HS.out _ HBN.out.f) (fun hHeld => ?_))
                  clear hKK KK
                  clear m0 m1 m2 m3 m4 m5 m6
                  refine wpAnyH_take (i := 14) (oi := { dst := some 12, op := _, type := _, pos := _, after := _, guard := _ }) (v := ?_) rfl (by kernel_rfl) (by kernel_rfl) (by kernel_rfl) (fun _ _ _ h => h) (Or.inl ⟨by rfl, ?_⟩) (by assumption) ?_
                  rotate_left
                  · intro Wx hSw
                    try dsimp only at hSw
                    go_simp
                    try with_reducible rfl
                  try simp only [Act.put, List.setIfInBounds_toArray, List.set_cons_zero, List.set_cons_succ]
                  refine wpAnyH_done (by kernel_rfl) ?_ _
                  go_wp2_with fail
                  go_meet
                  case rel => exact ⟨_, K2, rfl, rfl, HK2.out, HBN.out⟩
                · go_simp
                  have HI := Lib.hid (Is.new (v1) 35 #[.slice none 0 0, .slice none 0 0, .slice none 0 0, .slice none 0 0, .slice none 0 0, .slice none 0 0, .bool false])
                  have HNB : Hid (w8.heap.size ≤ (v1).heap.size) := Lib.hid HG.out.size
                  have HG9 := HG
                  have HG := Lib.hid (HG.out.alloc (.cells #[.slice none 0 0, .slice none 0 0, .slice none 0 0, .slice none 0 0, .slice none 0 0, .slice none 0 0, .bool false] 35))
                  have HF09 := HF0
                  have HF0 := Lib.hid (HF0.out.alloc (.cells #[.slice none 0 0, .slice none 0 0, .slice none 0 0, .slice none 0 0, .slice none 0 0, .slice none 0 0, .bool false] 35))
                  have HF19 := HF1
                  have HF1 := Lib.hid (HF1.out.alloc (.cells #[.slice none 0 0, .slice none 0 0, .slice none 0 0, .slice none 0 0, .slice none 0 0, .slice none 0 0, .bool false] 35))
                  (with_reducible refine hKK.out _ _ (HS.out _ HG.out) (fun hHeld => ?_))
                  clear hKK KK
                  refine wpAnyH_ready (rs := [8]) (by kernel_rfl) (by simp) (AllReadyH.cons rfl (fun KK hKK => ?_) (AllReadyH.nil))
                  go_simp
                  try simp only [h8w]
                  have HGP := HG
                  refine (KT C V _ HCF.out HVP.out _ HG.out (HC.out.fr HF0.out) (HVO.out.fr HF1.out)).mono ?_
                  rintro _ v2 ⟨K2, rfl, hk2, ho2, fa⟩
                  have HG := Lib.hid (fr_nil HG.out fa)
                  have HF0 := Lib.hid (fr_nil HF0.out fa)
                  have HF1 := Lib.hid (fr_nil HF1.out fa)
                  have HF2 := Lib.hid (Fr.refl (fun _ => False) v2)
                  have HI := Lib.hid (HI.out.fr fa id)
                  have HK2 := Lib.hid hk2
                  have HO := Lib.hid (ho2.base HGP.out.size)
                  clear hk2 ho2
                  unfold Km.val Km.arr
                  clear fa
                  (with_reducible refine hKK.out _ _ (HS.out _ HG.out) (fun hHeld => ?_))
                  clear hKK KK
                  refine wpAnyH_take (i := 9) (oi := { dst := some 43, op := _, type := _, pos := _, after := _, guard := _ }) (v := ?_) rfl (by kernel_rfl) (by kernel_rfl) (by kernel_rfl) (fun _ _ _ h => h) (Or.inl ⟨by rfl, ?_⟩) (by assumption) ?_
                  rotate_left
                  · intro Wx hSw
                    try dsimp only at hSw
                    go_simp
                    try with_reducible rfl
                  try simp only [Act.put, List.setIfInBounds_toArray, List.set_cons_zero, List.set_cons_succ]
                  refine wpAnyH_take (i := 10) (oi := { dst := some 53, op := _, type := _, pos := _, after := _, guard := _ }) (v := ?_) rfl (by kernel_rfl) (by kernel_rfl) (by kernel_rfl) (fun _ _ _ h => h) (Or.inl ⟨by rfl, ?_⟩) (by assumption) ?_
                  rotate_left
                  · intro Wx hSw
                    try dsimp only at hSw
                    go_simp
                    try with_reducible rfl
                  try simp only [Act.put, List.setIfInBounds_toArray, List.set_cons_zero, List.set_cons_succ]
                  refine wpAnyH_take (i := 11) (oi := { dst := some 54, op := _, type := _, pos := _, after := _, guard := _ }) (v := ?_) rfl (by kernel_rfl) (by kernel_rfl) (by kernel_rfl) (fun _ _ _ h => h) (Or.inl ⟨by rfl, ?_⟩) (by assumption) ?_
                  rotate_left
                  · intro Wx hSw
                    try dsimp only at hSw
                    go_simp
                    try with_reducible rfl
                  try simp only [Act.put, List.setIfInBounds_toArray, List.set_cons_zero, List.set_cons_succ]
                  refine wpAnyH_ready (rs := [13]) (by kernel_rfl) (by simp) (AllReadyH.cons rfl (fun KK hKK => ?_) (AllReadyH.nil))
                  have isr := HI.out
                  obtain ⟨m0, m1, m2, m3, m4, m5, m6⟩ := seven isr
                  have z0 := isr.frozen 0
                  have z1 := isr.frozen 1
                  have z2 := isr.frozen 2
                  have z3 := isr.frozen 3
                  have z4 := isr.frozen 4
                  have z5 := isr.frozen 5
                  have z6 := isr.frozen 6
                  go_simp
                  have HOn := Lib.hid (HO.out.fr HF2.out fun _ _ => id)
                  have isR := (((((((isr.set 0 (.slice K2.A1 K2.own.length K2.c1)).set 1 (.slice K2.A2 K2.rts.length K2.c2)).set 2 (.slice K2.A3 K2.pts.length K2.c3)).set 3 (.slice K2.A4 K2.crs.length K2.c4)).set 4 (.slice K2.A5 K2.lns.length K2.c5)).set 5 (.slice K2.A6 K2.rss.length K2.c6)).set 6 (.bool K2.dirty))
                  have fR := ((((((((Fr.refl (fun q => q = (v1).heap.size) (v2)).setCell (p := ⟨(v1).heap.size, 0, none⟩) (.inl rfl) (.slice K2.A1 K2.own.length K2.c1)).setCell (p := ⟨(v1).heap.size, 1, none⟩) (.inl rfl) (.slice K2.A2 K2.rts.length K2.c2)).setCell (p := ⟨(v1).heap.size, 2, none⟩) (.inl rfl) (.slice K2.A3 K2.pts.length K2.c3)).setCell (p := ⟨(v1).heap.size, 3, none⟩) (.inl rfl) (.slice K2.A4 K2.crs.length K2.c4)).setCell (p := ⟨(v1).heap.size, 4, none⟩) (.inl rfl) (.slice K2.A5 K2.lns.length K2.c5)).setCell (p := ⟨(v1).heap.size, 5, none⟩) (.inl rfl) (.slice K2.A6 K2.rss.length K2.c6)).setCell (p := ⟨(v1).heap.size, 6, none⟩) (.inl rfl) (.bool K2.dirty))
                  simp only [List.setIfInBounds_toArray, List.set_cons_zero, List.set_cons_succ] at isR
                  have HBN : Hid (Bx w8 ((((((((v2).setCell ⟨(v1).heap.size, 0, none⟩ (.slice K2.A1 K2.own.length K2.c1)).setCell ⟨(v1).heap.size, 1, none⟩ (.slice K2.A2 K2.rts.length K2.c2)).setCell ⟨(v1).heap.size, 2, none⟩ (.slice K2.A3 K2.pts.length K2.c3)).setCell ⟨(v1).heap.size, 3, none⟩ (.slice K2.A4 K2.crs.length K2.c4)).setCell ⟨(v1).heap.size, 4, none⟩ (.slice K2.A5 K2.lns.length K2.c5)).setCell ⟨(v1).heap.size, 5, none⟩ (.slice K2.A6 K2.rss.length K2.c6)).setCell ⟨(v1).heap.size, 6, none⟩ (.bool K2.dirty)) (v1).heap.size K2) := Lib.hid ⟨isR, HOn.out.fr fR fun k hk e => HOn.out.ne_is isr (by decide) (by decide) (by decide) (by decide) (e ▸ hk), (((((((HG.out.setCell (p := ⟨(v1).heap.size, 0, none⟩) (.inr HNB.out) (.slice K2.A1 K2.own.length K2.c1)).setCell (p := ⟨(v1).heap.size, 1, none⟩) (.inr HNB.out) (.slice K2.A2 K2.rts.length K2.c2)).setCell (p := ⟨(v1).heap.size, 2, none⟩) (.inr HNB.out) (.slice K2.A3 K2.pts.length K2.c3)).setCell (p := ⟨(v1).heap.size, 3, none⟩) (.inr HNB.out) (.slice K2.A4 K2.crs.length K2.c4)).setCell (p := ⟨(v1).heap.size, 4, none⟩) (.inr HNB.out) (.slice K2.A5 K2.lns.length K2.c5)).setCell (p := ⟨(v1).heap.size, 5, none⟩) (.inr HNB.out) (.slice K2.A6 K2.rss.length K2.c6)).setCell (p := ⟨(v1).heap.size, 6, none⟩) (.inr HNB.out) (.bool K2.dirty)), HNB.out⟩
                  clear isR fR isr
                  (with_reducible refine hKK.out _ _ (HS.out _ HBN.out.f) (fun hHeld => ?_))
                  clear hKK KK
                  clear m0 m1 m2 m3 m4 m5 m6 z0 z1 z2 z3 z4 z5 z6
                  refine wpAnyH_take (i := 14) (oi := { dst := some 12, op := _, type := _, pos := _, after := _, guard := _ }) (v := ?_) rfl (by kernel_rfl) (by kernel_rfl) (by kernel_rfl) (fun _ _ _ h => h) (Or.inl ⟨by rfl, ?_⟩) (by assumption) ?_
                  rotate_left
                  · intro Wx hSw
                    try dsimp only at hSw
                    go_simp
                    try with_reducible rfl
                  try simp only [Act.put, List.setIfInBounds_toArray, List.set_cons_zero, List.set_cons_succ]
                  refine wpAnyH_done (by kernel_rfl) ?_ _
                  go_wp2_with fail
                  go_meet
                  case rel => exact ⟨_, K2, rfl, rfl, HK2.out, HBN.out⟩
              · go_simp
                have HI := Lib.hid (Is.new (v0) 35 #[.slice none 0 0, .slice none 0 0, .slice none 0 0, .slice none 0 0, .slice none 0 0, .slice none 0 0, .bool false])
                have HNB : Hid (w8.heap.size ≤ (v0).heap.size) := Lib.hid HG.out.size
                have HG9 := HG
                have HG := Lib.hid (HG.out.alloc (.cells #[.slice none 0 0, .slice none 0 0, .slice none 0 0, .slice none 0 0, .slice none 0 0, .slice none 0 0, .bool false] 35))
                have HF09 := HF0
                have HF0 := Lib.hid (HF0.out.alloc (.cells #[.slice none 0 0, .slice none 0 0, .slice none 0 0, .slice none 0 0, .slice none 0 0, .slice none 0 0, .bool false] 35))
                (with_reducible refine hKK.out _ _ (HS.out _ HG.out) (fun hHeld => ?_))
                clear hKK KK
                refine wpAnyH_ready (rs := [5]) (by kernel_rfl) (by simp) (AllReadyH.cons rfl (fun KK hKK => ?_) (AllReadyH.nil))
                go_simp
                try simp only [h8w]
                have HGP := HG
                refine (seen15_any _ n1 _).mono ?_
                rintro _ v1 ⟨V, rfl, hv, hvo, fa⟩
                have HG := Lib.hid (fr_nil HG.out fa)
                have HF0 := Lib.hid (fr_nil HF0.out fa)
                have HF1 := Lib.hid (Fr.refl (fun _ => False) v1)
                have HI := Lib.hid (HI.out.fr fa id)
                have HVP := Lib.hid hv
                have HVO := Lib.hid hvo
                clear hv hvo
                unfold Vm.val Vm.arr
                clear fa
                (with_reducible refine hKK.out _ _ (HS.out _ HG.out) (fun hHeld => ?_))
                clear hKK KK
                refine wpAnyH_ready (rs := [8]) (by kernel_rfl) (by simp) (AllReadyH.cons rfl (fun KK hKK => ?_) (AllReadyH.nil))
                go_simp
                try simp only [h8w]
                have HGP := HG
                refine (KT C V _ HCF.out HVP.out _ HG.out (HC.out.fr HF0.out) (HVO.out.fr HF1.out)).mono ?_
                rintro _ v2 ⟨K2, rfl, hk2, ho2, fa⟩
                have HG := Lib.hid (fr_nil HG.out fa)
                have HF0 := Lib.hid (fr_nil HF0.out fa)
                have HF1 := Lib.hid (fr_nil HF1.out fa)
                have HF2 := Lib.hid (Fr.refl (fun _ => False) v2)
                have HI := Lib.hid (HI.out.fr fa id)
                have HK2 := Lib.hid hk2
                have HO := Lib.hid (ho2.base HGP.out.size)
                clear hk2 ho2
                unfold Km.val Km.arr
                clear fa
                (with_reducible refine hKK.out _ _ (HS.out _ HG.out) (fun hHeld => ?_))
                clear hKK KK
                refine wpAnyH_take (i := 9) (oi := { dst := some 43, op := _, type := _, pos := _, after := _, guard := _ }) (v := ?_) rfl (by kernel_rfl) (by kernel_rfl) (by kernel_rfl) (fun _ _ _ h => h) (Or.inl ⟨by rfl, ?_⟩) (by assumption) ?_
                rotate_left
                · intro Wx hSw
                  try dsimp only at hSw
                  go_simp
                  try with_reducible rfl
                try simp only [Act.put, List.setIfInBounds_toArray, List.set_cons_zero, List.set_cons_succ]
                refine wpAnyH_take (i := 10) (oi := { dst := some 53, op := _, type := _, pos := _, after := _, guard := _ }) (v := ?_) rfl (by kernel_rfl) (by kernel_rfl) (by kernel_rfl) (fun _ _ _ h => h) (Or.inl ⟨by rfl, ?_⟩) (by assumption) ?_
                rotate_left
                · intro Wx hSw
                  try dsimp only at hSw
                  go_simp
                  try with_reducible rfl
                try simp only [Act.put, List.setIfInBounds_toArray, List.set_cons_zero, List.set_cons_succ]
                refine wpAnyH_take (i := 11) (oi := { dst := some 54, op := _, type := _, pos := _, after := _, guard := _ }) (v := ?_) rfl (by kernel_rfl) (by kernel_rfl) (by kernel_rfl) (fun _ _ _ h => h) (Or.inl ⟨by rfl, ?_⟩) (by assumption) ?_
                rotate_left
                · intro Wx hSw
                  try dsimp only at hSw
                  go_simp
                  try with_reducible rfl
                try simp only [Act.put, List.setIfInBounds_toArray, List.set_cons_zero, List.set_cons_succ]
                refine wpAnyH_ready (rs := [13]) (by kernel_rfl) (by simp) (AllReadyH.cons rfl (fun KK hKK => ?_) (AllReadyH.nil))
                have isr := HI.out
                obtain ⟨m0, m1, m2, m3, m4, m5, m6⟩ := seven isr
                have z0 := isr.frozen 0
                have z1 := isr.frozen 1
                have z2 := isr.frozen 2
                have z3 := isr.frozen 3
                have z4 := isr.frozen 4
                have z5 := isr.frozen 5
                have z6 := isr.frozen 6
                go_simp
                have HOn := Lib.hid (HO.out.fr HF2.out fun _ _ => id)
                have isR := (((((((isr.set 0 (.slice K2.A1 K2.own.length K2.c1)).set 1 (.slice K2.A2 K2.rts.length K2.c2)).set 2 (.slice K2.A3 K2.pts.length K2.c3)).set 3 (.slice K2.A4 K2.crs.length K2.c4)).set 4 (.slice K2.A5 K2.lns.length K2.c5)).set 5 (.slice K2.A6 K2.rss.length K2.c6)).set 6 (.bool K2.dirty))
                have fR := ((((((((Fr.refl (fun q => q = (v0).heap.size) (v2)).setCell (p := ⟨(v0).heap.size, 0, none⟩) (.inl rfl) (.slice K2.A1 K2.own.length K2.c1)).setCell (p := ⟨(v0).heap.size, 1, none⟩) (.inl rfl) (.slice K2.A2 K2.rts.length K2.c2)).setCell (p := ⟨(v0).heap.size, 2, none⟩) (.inl rfl) (.slice K2.A3 K2.pts.length K2.c3)).setCell (p := ⟨(v0).heap.size, 3, none⟩) (.inl rfl) (.slice K2.A4 K2.crs.length K2.c4)).setCell (p := ⟨(v0).heap.size, 4, none⟩) (.inl rfl) (.slice K2.A5 K2.lns.length K2.c5)).setCell (p := ⟨(v0).heap.size, 5, none⟩) (.inl rfl) (.slice K2.A6 K2.rss.length K2.c6)).setCell (p := ⟨(v0).heap.size, 6, none⟩) (.inl rfl) (.bool K2.dirty))
                simp only [List.setIfInBounds_toArray, List.set_cons_zero, List.set_cons_succ] at isR
                have HBN : Hid (Bx w8 ((((((((v2).setCell ⟨(v0).heap.size, 0, none⟩ (.slice K2.A1 K2.own.length K2.c1)).setCell ⟨(v0).heap.size, 1, none⟩ (.slice K2.A2 K2.rts.length K2.c2)).setCell ⟨(v0).heap.size, 2, none⟩ (.slice K2.A3 K2.pts.length K2.c3)).setCell ⟨(v0).heap.size, 3, none⟩ (.slice K2.A4 K2.crs.length K2.c4)).setCell ⟨(v0).heap.size, 4, none⟩ (.slice K2.A5 K2.lns.length K2.c5)).setCell ⟨(v0).heap.size, 5, none⟩ (.slice K2.A6 K2.rss.length K2.c6)).setCell ⟨(v0).heap.size, 6, none⟩ (.bool K2.dirty)) (v0).heap.size K2) := Lib.hid ⟨isR, HOn.out.fr fR fun k hk e => HOn.out.ne_is isr (by decide) (by decide) (by decide) (by decide) (e ▸ hk), (((((((HG.out.setCell (p := ⟨(v0).heap.size, 0, none⟩) (.inr HNB.out) (.slice K2.A1 K2.own.length K2.c1)).setCell (p := ⟨(v0).heap.size, 1, none⟩) (.inr HNB.out) (.slice K2.A2 K2.rts.length K2.c2)).setCell (p := ⟨(v0).heap.size, 2, none⟩) (.inr HNB.out) (.slice K2.A3 K2.pts.length K2.c3)).setCell (p := ⟨(v0).heap.size, 3, none⟩) (.inr HNB.out) (.slice K2.A4 K2.crs.length K2.c4)).setCell (p := ⟨(v0).heap.size, 4, none⟩) (.inr HNB.out) (.slice K2.A5 K2.lns.length K2.c5)).setCell (p := ⟨(v0).heap.size, 5, none⟩) (.inr HNB.out) (.slice K2.A6 K2.rss.length K2.c6)).setCell (p := ⟨(v0).heap.size, 6, none⟩) (.inr HNB.out) (.bool K2.dirty)), HNB.out⟩
                clear isR fR isr
                (with_reducible refine hKK.out _ _ (HS.out _ HBN.out.f) (fun hHeld => ?_))
                clear hKK KK
                clear m0 m1 m2 m3 m4 m5 m6 z0 z1 z2 z3 z4 z5 z6
                refine wpAnyH_take (i := 14) (oi := { dst := some 12, op := _, type := _, pos := _, after := _, guard := _ }) (v := ?_) rfl (by kernel_rfl) (by kernel_rfl) (by kernel_rfl) (fun _ _ _ h => h) (Or.inl ⟨by rfl, ?_⟩) (by assumption) ?_
                rotate_left
                · intro Wx hSw
                  try dsimp only at hSw
                  go_simp
                  try with_reducible rfl
                try simp only [Act.put, List.setIfInBounds_toArray, List.set_cons_zero, List.set_cons_succ]
                refine wpAnyH_done (by kernel_rfl) ?_ _
                go_wp2_with fail
                go_meet
                case rel => exact ⟨_, K2, rfl, rfl, HK2.out, HBN.out⟩
            · go_simp
              have HI := Lib.hid (Is.new (wdr) 35 #[.slice none 0 0, .slice none 0 0, .slice none 0 0, .slice none 0 0, .slice none 0 0, .slice none 0 0, .bool false])
              have HNB : Hid (w8.heap.size ≤ (wdr).heap.size) := Lib.hid HG.out.size
              have HG9 := HG
              have HG := Lib.hid (HG.out.alloc (.cells #[.slice none 0 0, .slice none 0 0, .slice none 0 0, .slice none 0 0, .slice none 0 0, .slice none 0 0, .bool false] 35))
              (with_reducible refine hKK.out _ _ (HS.out _ HG.out) (fun hHeld => ?_))
              clear hKK KK
              refine wpAnyH_ready (rs := [0]) (by kernel_rfl) (by simp) (AllReadyH.cons rfl (fun KK hKK => ?_) (AllReadyH.nil))
              go_simp
              try simp only [h8w]
              have HGP := HG
              refine (end15_any _).mono ?_
              rintro _ v0 ⟨C, rfl, hcf, -, hC, fa⟩
              have HG := Lib.hid (fr_nil HG.out fa)
              have HF0 := Lib.hid (Fr.refl (fun _ => False) v0)
              have HI := Lib.hid (HI.out.fr fa id)
              have HCF := Lib.hid hcf
              have HC := Lib.hid hC
              clear hcf hC
              unfold Cm.val Cm.arr
              clear fa
              (with_reducible refine hKK.out _ _ (HS.out _ HG.out) (fun hHeld => ?_))
              clear hKK KK
              refine wpAnyH_ready (rs := [5]) (by kernel_rfl) (by simp) (AllReadyH.cons rfl (fun KK hKK => ?_) (AllReadyH.nil))
              go_simp
              try simp only [h8w]
              have HGP := HG
              refine (seen15_any _ n1 _).mono ?_
              rintro _ v1 ⟨V, rfl, hv, hvo, fa⟩
              have HG := Lib.hid (fr_nil HG.out fa)
              have HF0 := Lib.hid (fr_nil HF0.out fa)
              have HF1 := Lib.hid (Fr.refl (fun _ => False) v1)
              have HI := Lib.hid (HI.out.fr fa id)
              have HVP := Lib.hid hv
              have HVO := Lib.hid hvo
              clear hv hvo
              unfold Vm.val Vm.arr
              clear fa
              (with_reducible refine hKK.out _ _ (HS.out _ HG.out) (fun hHeld => ?_))
              clear hKK KK
              refine wpAnyH_ready (rs := [8]) (by kernel_rfl) (by simp) (AllReadyH.cons rfl (fun KK hKK => ?_) (AllReadyH.nil))
              go_simp
              try simp only [h8w]
              have HGP := HG
              refine (KT C V _ HCF.out HVP.out _ HG.out (HC.out.fr HF0.out) (HVO.out.fr HF1.out)).mono ?_
              rintro _ v2 ⟨K2, rfl, hk2, ho2, fa⟩
              have HG := Lib.hid (fr_nil HG.out fa)
              have HF0 := Lib.hid (fr_nil HF0.out fa)
              have HF1 := Lib.hid (fr_nil HF1.out fa)
              have HF2 := Lib.hid (Fr.refl (fun _ => False) v2)
              have HI := Lib.hid (HI.out.fr fa id)
              have HK2 := Lib.hid hk2
              have HO := Lib.hid (ho2.base HGP.out.size)
              clear hk2 ho2
              unfold Km.val Km.arr
              clear fa
              (with_reducible refine hKK.out _ _ (HS.out _ HG.out) (fun hHeld => ?_))
              clear hKK KK
              refine wpAnyH_take (i := 9) (oi := { dst := some 43, op := _, type := _, pos := _, after := _, guard := _ }) (v := ?_) rfl (by kernel_rfl) (by kernel_rfl) (by kernel_rfl) (fun _ _ _ h => h) (Or.inl ⟨by rfl, ?_⟩) (by assumption) ?_
              rotate_left
              · intro Wx hSw
                try dsimp only at hSw
                go_simp
                try with_reducible rfl
              try simp only [Act.put, List.setIfInBounds_toArray, List.set_cons_zero, List.set_cons_succ]
              refine wpAnyH_take (i := 10) (oi := { dst := some 53, op := _, type := _, pos := _, after := _, guard := _ }) (v := ?_) rfl (by kernel_rfl) (by kernel_rfl) (by kernel_rfl) (fun _ _ _ h => h) (Or.inl ⟨by rfl, ?_⟩) (by assumption) ?_
              rotate_left
              · intro Wx hSw
                try dsimp only at hSw
                go_simp
                try with_reducible rfl
              try simp only [Act.put, List.setIfInBounds_toArray, List.set_cons_zero, List.set_cons_succ]
              refine wpAnyH_take (i := 11) (oi := { dst := some 54, op := _, type := _, pos := _, after := _, guard := _ }) (v := ?_) rfl (by kernel_rfl) (by kernel_rfl) (by kernel_rfl) (fun _ _ _ h => h) (Or.inl ⟨by rfl, ?_⟩) (by assumption) ?_
              rotate_left
              · intro Wx hSw
                try dsimp only at hSw
                go_simp
                try with_reducible rfl
              try simp only [Act.put, List.setIfInBounds_toArray, List.set_cons_zero, List.set_cons_succ]
              refine wpAnyH_ready (rs := [13]) (by kernel_rfl) (by simp) (AllReadyH.cons rfl (fun KK hKK => ?_) (AllReadyH.nil))
              have isr := HI.out
              obtain ⟨m0, m1, m2, m3, m4, m5, m6⟩ := seven isr
              have z0 := isr.frozen 0
              have z1 := isr.frozen 1
              have z2 := isr.frozen 2
              have z3 := isr.frozen 3
              have z4 := isr.frozen 4
              have z5 := isr.frozen 5
              have z6 := isr.frozen 6
              go_simp
              have HOn := Lib.hid (HO.out.fr HF2.out fun _ _ => id)
              have isR := (((((((isr.set 0 (.slice K2.A1 K2.own.length K2.c1)).set 1 (.slice K2.A2 K2.rts.length K2.c2)).set 2 (.slice K2.A3 K2.pts.length K2.c3)).set 3 (.slice K2.A4 K2.crs.length K2.c4)).set 4 (.slice K2.A5 K2.lns.length K2.c5)).set 5 (.slice K2.A6 K2.rss.length K2.c6)).set 6 (.bool K2.dirty))
              have fR := ((((((((Fr.refl (fun q => q = (wdr).heap.size) (v2)).setCell (p := ⟨(wdr).heap.size, 0, none⟩) (.inl rfl) (.slice K2.A1 K2.own.length K2.c1)).setCell (p := ⟨(wdr).heap.size, 1, none⟩) (.inl rfl) (.slice K2.A2 K2.rts.length K2.c2)).setCell (p := ⟨(wdr).heap.size, 2, none⟩) (.inl rfl) (.slice K2.A3 K2.pts.length K2.c3)).setCell (p := ⟨(wdr).heap.size, 3, none⟩) (.inl rfl) (.slice K2.A4 K2.crs.length K2.c4)).setCell (p := ⟨(wdr).heap.size, 4, none⟩) (.inl rfl) (.slice K2.A5 K2.lns.length K2.c5)).setCell (p := ⟨(wdr).heap.size, 5, none⟩) (.inl rfl) (.slice K2.A6 K2.rss.length K2.c6)).setCell (p := ⟨(wdr).heap.size, 6, none⟩) (.inl rfl) (.bool K2.dirty))
              simp only [List.setIfInBounds_toArray, List.set_cons_zero, List.set_cons_succ] at isR
              have HBN : Hid (Bx w8 ((((((((v2).setCell ⟨(wdr).heap.size, 0, none⟩ (.slice K2.A1 K2.own.length K2.c1)).setCell ⟨(wdr).heap.size, 1, none⟩ (.slice K2.A2 K2.rts.length K2.c2)).setCell ⟨(wdr).heap.size, 2, none⟩ (.slice K2.A3 K2.pts.length K2.c3)).setCell ⟨(wdr).heap.size, 3, none⟩ (.slice K2.A4 K2.crs.length K2.c4)).setCell ⟨(wdr).heap.size, 4, none⟩ (.slice K2.A5 K2.lns.length K2.c5)).setCell ⟨(wdr).heap.size, 5, none⟩ (.slice K2.A6 K2.rss.length K2.c6)).setCell ⟨(wdr).heap.size, 6, none⟩ (.bool K2.dirty)) (wdr).heap.size K2) := Lib.hid ⟨isR, HOn.out.fr fR fun k hk e => HOn.out.ne_is isr (by decide) (by decide) (by decide) (by decide) (e ▸ hk), (((((((HG.out.setCell (p := ⟨(wdr).heap.size, 0, none⟩) (.inr HNB.out) (.slice K2.A1 K2.own.length K2.c1)).setCell (p := ⟨(wdr).heap.size, 1, none⟩) (.inr HNB.out) (.slice K2.A2 K2.rts.length K2.c2)).setCell (p := ⟨(wdr).heap.size, 2, none⟩) (.inr HNB.out) (.slice K2.A3 K2.pts.length K2.c3)).setCell (p := ⟨(wdr).heap.size, 3, none⟩) (.inr HNB.out) (.slice K2.A4 K2.crs.length K2.c4)).setCell (p := ⟨(wdr).heap.size, 4, none⟩) (.inr HNB.out) (.slice K2.A5 K2.lns.length K2.c5)).setCell (p := ⟨(wdr).heap.size, 5, none⟩) (.inr HNB.out) (.slice K2.A6 K2.rss.length K2.c6)).setCell (p := ⟨(wdr).heap.size, 6, none⟩) (.inr HNB.out) (.bool K2.dirty)), HNB.out⟩
              clear isR fR isr
              (with_reducible refine hKK.out _ _ (HS.out _ HBN.out.f) (fun hHeld => ?_))
              clear hKK KK
              clear m0 m1 m2 m3 m4 m5 m6 z0 z1 z2 z3 z4 z5 z6
              refine wpAnyH_take (i := 14) (oi := { dst := some 12, op := _, type := _, pos := _, after := _, guard := _ }) (v := ?_) rfl (by kernel_rfl) (by kernel_rfl) (by kernel_rfl) (fun _ _ _ h => h) (Or.inl ⟨by rfl, ?_⟩) (by assumption) ?_
              rotate_left
              · intro Wx hSw
                try dsimp only at hSw
                go_simp
                try with_reducible rfl
              try simp only [Act.put, List.setIfInBounds_toArray, List.set_cons_zero, List.set_cons_succ]
              refine wpAnyH_done (by kernel_rfl) ?_ _
              go_wp2_with fail
              go_meet
              case rel => exact ⟨_, K2, rfl, rfl, HK2.out, HBN.out⟩
          case rest =>
            obtain ⟨n2, K2, rfl, rfl, hk2, hb2⟩ := hcut
            have HB2 := Lib.hid hb2
            have HK2 := Lib.hid hk2
            have HB := Lib.hid (HB.out.fr hb2.f)
            have HWB := Lib.hid (HWB.out.fr hb2.f id)
            clear hk2 hb2
            obtain ⟨g1, o1, g5, o5, c0, d0, c1, c2, c3, c4, c5, c6, KL⟩ := look_at HB2.out HK2.out
            dsimp only [lnG] at KL
            obtain ⟨b0, b1, b2⟩ := three_cells HWB.out
            go_upto_region 17 with fail
            clear h8
            have c0 := cell_fro c0
            have d0 := cell_fro d0
            have c1 := cell_fro c1
            have c2 := cell_fro c2
            have c3 := cell_fro c3
            have c4 := cell_fro c4
            have c5 := cell_fro c5
            have c6 := cell_fro c6
            have b0 := cell_fro b0
            have b1 := cell_fro b1
            have b2 := cell_fro b2
            have KL := fun u : Fro wc => KL u.w u.f
            refine region_fro (by kernel_rfl) (by kernel_rfl) ?_
            repeat (go_big_quiet_step (first | (go_at_call 12; with_reducible exact call_fro (KL _))))
            refine wpQuiet_nil ?_
            rintro w9 ⟨⟨w9b, f3⟩, hww⟩
            replace hww : w9 = w9b := hww
            subst hww
            clear c0 d0 c1 c2 c3 c4 c5 c6 b0 b1 b2 KL
            have HB2 := Lib.hid (HB2.out.fr f3)
            have HB := Lib.hid (HB.out.fr f3)
            have HWB := Lib.hid (HWB.out.fr f3 id)
            clear f3
            obtain ⟨c0, c1, c2, c3, c4, c5, c6⟩ := Bk.core7 (K := K2) HB2.out.is
            have isr := HB.out.is
            unfold Km.arr at isr
            obtain ⟨m0, m1, m2, m3, m4, m5, m6⟩ := seven isr
            have z0 := isr.frozen 0
            have z1 := isr.frozen 1
            have z2 := isr.frozen 2
            have z3 := isr.frozen 3
            have z4 := isr.frozen 4
            have z5 := isr.frozen 5
            have z6 := isr.frozen 6
            have i9 : wrap64 ((k : Int) + 1) = ((k + 1 : Nat) : Int) := by rw [IntWalk.wrap64_in _ ⟨by omega, by have := H60.out; omega⟩]; omega
            obtain ⟨W, hW, hiW, fR⟩ := put_box isr K2
            have hown := (HB2.out.own.base HSZ.out).fr fR fun q hq e => HB2.out.own.ne_is isr (by decide) (by decide) (by decide) (by decide) (e ▸ hq)
            have HN := Lib.hid (show Bx w3 W kb K2 from ⟨hiW, hown, HB.out.f.trans fR fun q hq e => by have := HB.out.hb; omega, HB.out.hb⟩)
            have HWN := Lib.hid (HWB.out.fr fR (is_ne HWB.out HB.out.is (by decide)))
            have HWQ := Lib.hid hW
            clear hW hiW fR hown isr
            go_wp2_with fail
            rw [HWQ.out]
            rw [← HA1.out]
            go_roundg (l.length - (k + 1))
            case measure => have := HLT.out; omega
            case rel => exact ⟨k + 1, K2, HLT.out, rfl, by first | rw [i9] | rfl, HK2.out, HN.out, HWN.out⟩
    · obtain ⟨g1, o1, g5, o5, c0, d0, c1, c2, c3, c4, c5, c6, -⟩ := look_at HB.out HK.out
      obtain ⟨b0, b1, b2⟩ := three_cells HWB.out
      have hkl : k = l.length := by omega
      subst hkl
      clear hlt hk7
      go_wp2_with fail
      go_ret
      exact ⟨rfl, fr_nil HF3.out HB.out.f⟩
end Go.Proofs.Ytnnacdkijeoeoaa.Bk
/- BlockQuiet (P15.2): a neighbour that asks for nothing new gets nothing, cycle by cycle. For every number and every row of yes and no; no condition. -/
namespace Go.Proofs.Ytnnacdkijeoeoaa.blockQuiet
open Go.ChangeShapes Go.WideShapes Go.ChangeAt Go.RowKit
open Go.ChangeMaps (open_string shut_string)

set_option maxRecDepth 100000 in
theorem lifted (os : Os) (started : os.Started) (H : Type) (enc : TypeId × Value → H) :
    ReturnsInHanded {} Try.checked os 4 .any (Rows.blockQuietSpec.pre6 enc Try.prog Try.f4 Rows.blockQuietRow.domain false) (Rows.blockQuietSpec.post enc Try.prog Try.f4 false true false false) := by
  refine returnsInHanded_of_change_sized (C := Try.checked) Try.own started (by kernel_rfl) Try.func4
    (ChangeSpec.witness6 (enc := enc) (C := Try.checked) false ⟨#[], #[.int .i64 0, .slice none 0 0], []⟩ 8 (by kernel_rfl) (by kernel_rfl) (by kernel_rfl) (by kernel_rfl)) ?_
  intro W base args ds gs before hval0 hW hcnd0 hsz0 _
  have hval : ∀ (j : Nat) t v, Try.f4.params[j]? = some t → args[j]? = some v → Value.okWide Try.prog W .any base t v := hval0
  have hW' := hW
  obtain ⟨p, q, hA0, hV, rfl, hfz, hnd⟩ := hW
  have hA : DataW.TrodAll enc Try.prog W 0 (fun _ => true) true Try.f4.params.toList args.toList ds p := hA0
  have hsz : (DataW.weightsEach Try.prog (Try.f4.params.toList ++ Rows.blockQuietSpec.plain.varTypes Try.prog) (ds ++ gs)).all (· ≤ reachBytes) = true := hsz0
  rw [Try.params4] at hA hval hsz
  obtain ⟨v0, v1, d0, d1, p0, p1, rfl, rfl, rfl, h0, h1⟩ := trodAll_two hA
  obtain ⟨rfl, rfl⟩ := trodVars_none hV
  obtain ⟨a0, rfl, rfl, rfl, w0⟩ := open_int Try.underlying3 (hval 0 3 v0 rfl rfl) h0
  have b0 : -9223372036854775808 ≤ a0 ∧ a0 ≤ 9223372036854775807 := by
    simp only [Lit.wf, IntKind.min, IntKind.max, IntKind.signed, IntKind.bits, Bool.and_eq_true, decide_eq_true_eq, if_true] at w0
    have := w0.1
    have := w0.2
    omega
  obtain ⟨A1, c1, l1, rfl, hl1, hd1⟩ := Bk.open_bools (hval 1 53 v1 rfl rfl) h1
  refine (Lk.toB (Bk.quiet_walk a0 l1 hl1 (by have := hd1; unfold maxLen at this; omega))).mono fun e W' ⟨he, hb⟩ => ?_
  subst he
  exact law_post hW' rfl (by kernel_rfl) (by rw [Try.params4]; exact of_decide_eq_true (by kernel_rfl)) rfl rfl rfl hb

theorem proved : Rows.BlockQuietSaid :=
  OpenClaim.holds_of_wide 4 Try.f4 rfl rfl rfl rfl rfl rfl rfl ⟨rfl, rfl, rfl, rfl, rfl⟩ rfl rfl rfl rfl rfl (by kernel_rfl) Try.func4 (by kernel_rfl)
    (of_decide_eq_true (by kernel_rfl)) (by unfold Func.isWrapper; first | (rw [if_pos (by decide +kernel)]; kernel_rfl) | (rw [if_neg (by decide +kernel)]; exact ⟨rfl, rfl⟩))
    (fun os started H enc _ => lifted os started H enc)
end Go.Proofs.Ytnnacdkijeoeoaa.blockQuiet

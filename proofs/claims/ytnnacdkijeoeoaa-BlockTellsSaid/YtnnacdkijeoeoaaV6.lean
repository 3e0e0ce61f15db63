import Derived.Test.YtnnacdkijeoeoaaV3
import Derived.Test.YtnnacdkijeoeoaaNop
import Derived.Test.YtnnacdkijeoeoaaKx
import Derived.Test.YtnnacdkijeoeoaaLtob
import Derived.Test.YtnnacdkijeoeoaaKa
import Derived.SizedLaws
/- What comes in: a row of yes and no; a line's cycle. -/
namespace Go.Proofs.Ytnnacdkijeoeoaa.Bk
open Go.ChangeShapes Go.WideShapes Go.ChangeAt Go.RowKit Go.Deep Go.Joins Lk Nk

/-- a cycle that comes in -/
def cyA (m : Int) (y : Bl) (V : Vm) (now : Int) : Array Value := #[.int .i64 m, .int .i64 y.ask, .int .i64 y.dn, .int .i64 y.gr, .slice V.A1 V.occ.length V.c1, .slice V.A2 V.pos.length V.c2, .slice V.A3 V.shut.length V.c3, .slice V.A4 V.lamp.length V.c4, .int .i64 now]
section
variable {H : Type} {enc : TypeId × Value → H} {w : World} {base : Nat}
set_option maxRecDepth 100000 in
theorem open_bools {v : Value} {d : DataW H} {ps : List MemPlace} (hv : Value.okWide Try.prog w .any base 53 v) (h : DataW.Trod enc Try.prog w 0 (fun _ => true) true 53 v d ps) :
    ∃ (A : Option Addr) (c : Nat) (l : List Bool), v = .slice A l.length c ∧ Rd w A (l.map Value.bool) ∧ l.length ≤ c ∧ c ≤ maxLen := by
  obtain ⟨a0, len0, cap0, rfl⟩ := okWide_slice Try.underlying53 hv
  obtain ⟨fuel, hf⟩ := h
  obtain ⟨A, c, l, e, r, k, m, -⟩ := open_flatQ (fun (_ : Bool) _ => True) 1 (fun b : Bool => [Value.bool b]) (fun _ => rfl) Try.underlying53 cells_bool (fun _ cs _ h => by
    obtain ⟨b, e, _⟩ := DataW.trod_bool Try.underlying4 h
    exact ⟨b, by simpa using e, trivial⟩) (show DataW.trod enc Try.prog w 0 (fun _ => true) true fuel 53 [.slice a0 len0 cap0] = some _ from hf)
  exact ⟨A, c, l, e, by rw [show l.map Value.bool = l.flatMap (fun b => [Value.bool b]) from by clear e r k m; induction l with | nil => rfl | cons x xs ih => rw [List.map_cons, List.flatMap_cons, ih]; rfl]; exact r, k, m⟩
theorem cells_cy15 : Try.prog.cellsOf 42 = 9 := by kernel_rfl
set_option maxRecDepth 100000 in
set_option maxHeartbeats 1000000 in
theorem open_cycle15 {v : Value} {d : DataW H} {ps : List MemPlace} (hv : Value.okWide Try.prog w .any base 42 v) (h : DataW.Trod enc Try.prog w 0 (fun _ => true) true 42 v d ps) : ∃ (m : Int) (y : Bl) (V : Vm) (now : Int), v = .agg (cyA m y V now) ∧ V.Ok w := by
  simp only [Value.okWide, Try.underlying42] at hv
  obtain ⟨cs, rfl, hcs, _⟩ := hv
  obtain ⟨fuel, hf0⟩ := h
  obtain ⟨l⟩ := cs
  obtain ⟨xs, m, _, hx, hlen, hxl, hf⟩ := DataW.trod_struct Try.underlying42 hf0
  rw [cells_cy15] at hlen
  match l, hlen with
  | [c0, c1, c2, c3, c4, c5, c6, c7, c8], _ =>
    match xs, hxl with
    | [x0, x1, x2, x3], _ =>
      have h0 : DataW.trod enc Try.prog w 0 (fun _ => true) true m 3 (([c0, c1, c2, c3, c4, c5, c6, c7, c8].drop 0).take (Try.prog.cellsOf 3)) = some x0 := hf 0 _ rfl
      have h1 : DataW.trod enc Try.prog w 0 (fun _ => true) true m 37 (([c0, c1, c2, c3, c4, c5, c6, c7, c8].drop (0 + Try.prog.cellsOf 3)).take (Try.prog.cellsOf 37)) = some x1 := hf 1 _ rfl
      have h2 : DataW.trod enc Try.prog w 0 (fun _ => true) true m 40 (([c0, c1, c2, c3, c4, c5, c6, c7, c8].drop (0 + Try.prog.cellsOf 3 + Try.prog.cellsOf 37)).take (Try.prog.cellsOf 40)) = some x2 := hf 2 _ rfl
      have h3 : DataW.trod enc Try.prog w 0 (fun _ => true) true m 3 (([c0, c1, c2, c3, c4, c5, c6, c7, c8].drop (0 + Try.prog.cellsOf 3 + Try.prog.cellsOf 37 + Try.prog.cellsOf 40)).take (Try.prog.cellsOf 3)) = some x3 := hf 3 _ rfl
      simp only [cells_view, Try.cellInt, cells_blk] at h0 h1 h2 h3
      obtain ⟨a0, rfl, -⟩ := int_of (show DataW.trod enc Try.prog w 0 (fun _ => true) true m 3 [c0] = some x0 from h0)
      obtain ⟨⟨p0, p1, p2⟩, ep⟩ := blk_of (show DataW.trod enc Try.prog w 0 (fun _ => true) true m 37 [c1, c2, c3] = some x1 from h1)
      simp only [List.cons.injEq, and_true] at ep
      obtain ⟨rfl, rfl, rfl⟩ := ep
      obtain ⟨V, eV, hV⟩ := view_of (show DataW.trod enc Try.prog w 0 (fun _ => true) true m 40 [c4, c5, c6, c7] = some x2 from h2)
      unfold Vm.arr at eV
      simp only [List.cons.injEq, and_true] at eV
      obtain ⟨rfl, rfl, rfl, rfl⟩ := eV
      obtain ⟨a3, rfl, -⟩ := int_of (show DataW.trod enc Try.prog w 0 (fun _ => true) true m 3 [c8] = some x3 from h3)
      exact ⟨a0, ⟨p0, p1, p2⟩, V, a3, rfl, hV⟩
end
end Go.Proofs.Ytnnacdkijeoeoaa.Bk
/- The walk of BlockTells (written by gen/tells.py). -/
namespace Go.Proofs.Ytnnacdkijeoeoaa.Bk
open Go.RowKit Lk Nk

set_option maxRecDepth 100000 in
set_option maxHeartbeats 2000000 in
theorem rsec_any {C : Cm} {w : World} (hC : C.Ok w) {n : Int} (hn : 1 ≤ n) :
    Calls Try.prog 8 #[C.val, .int .i64 n] w fun e w' => e = .returned (.int .i64 (secAt C.l n)) ∧ Fr (fun _ => False) w w' := by
  unfold secAt
  generalize hT : Mv.firstP (secP n) C.l 0 = T
  have HT := Lib.hid hT
  have HF := Lib.hid ((Fr.refl (fun _ => False) w).alloc (.cells C.arr 30))
  have HI := Lib.hid (Is.new w 30 C.arr)
  have HC := Lib.hid hC.secs
  have hlb : (C.l.length : Int) ≤ 5864062014635 := by have := hC.b1; omega
  have e1 : decide (n ≥ 1) = true := decide_eq_true hn
  clear hT hC hn
  unfold Cm.val Cm.arr at *
  go_enter Try.func8, Try.ntmps8
  go_upto_region 1 with fail
  generalize w.alloc _ = w1 at *
  have c0 : w1.cell? ⟨w.heap.size, 0, none⟩ = some (.slice C.A1 C.l.length C.c1) := HI.out.cell 0
  go_wp2_with fail
  clear c0
  go_loopg [5, 6, 10] C.l.length (fun gi _ _ v10 wr => ∃ (k : Nat), k ≤ C.l.length ∧ gi = C.l.length - k ∧ v10 = .int .i64 (k : Nat) ∧ Mv.firstP (secP n) (C.l.drop k) k = T ∧ Fr (fun _ => False) w1 wr)
  case atStart => exact ⟨0, Nat.zero_le _, rfl, rfl, HT.out, Fr.refl _ _⟩
  case round =>
    clear HT
    obtain ⟨k, hk, rfl, rfl, hT, fr⟩ := hrel
    have HFW := Lib.hid fr
    by_cases hlt : k < C.l.length
    · obtain ⟨g, o, hA, q0, q1, q2⟩ := rd_sec (HC.out.fr (fr_nil HF.out fr) fun _ _ => id) hlt
      have HLT := Lib.hid hlt
      rw [List.drop_eq_getElem_cons hlt, Mv.firstP] at hT
      generalize hR : C.l.drop (k + 1) = R at hT
      have HR := Lib.hid hR
      clear hR
      generalize C.l[k] = z at *
      obtain ⟨z0, z1, z2⟩ := z
      simp only at q0 q1 q2
      have i1 : (0 : Int) ≤ (k : Int) := by omega
      have i2 : (k : Int) < (C.l.length : Int) := by omega
      have hfa := fr.alloc (.cells #[.int .i64 z0, .int .i64 z1, .int .i64 z2] 73)
      have HFA := Lib.hid hfa
      have HZ := Lib.hid (Is.new wr 73 #[.int .i64 z0, .int .i64 z1, .int .i64 z2])
      rw [hA]
      have HA := Lib.hid hA
      clear hA hlt hk fr hfa
      go_upto_region 4 with fail
      clear q0 q1 q2
      have b2 : (wr.alloc (.cells #[.int .i64 z0, .int .i64 z1, .int .i64 z2] 73)).cell? ⟨wr.heap.size, 2, none⟩ = some (.int .i64 z2) := HZ.out.cell 2
      generalize wr.alloc _ = wb at *
      by_cases hz : z2 = n
      · subst hz
        rw [if_pos (by unfold secP; simp)] at hT
        have HT := Lib.hid hT
        clear hT
        go_wp2_with fail
        go_ret
        exact ⟨by rw [← HT.out]; rfl, fr_nil HF.out HFA.out⟩
      · rw [if_neg (by unfold secP; simpa using hz)] at hT
        have e2 : (z2 == n) = false := by simpa using hz
        have e3 : decide (z2 = n) = false := by simpa using hz
        have HT := Lib.hid hT
        clear hT hz
        go_wp2_with fail
        rw [← HA.out]
        go_roundg (C.l.length - (k + 1))
        case measure => have := HLT.out; omega
        case rel => exact ⟨k + 1, HLT.out, rfl, by go_num, by rw [HR.out]; exact HT.out, HFA.out⟩
    · rw [List.drop_eq_nil_of_le (show C.l.length ≤ k by omega)] at hT
      have HT := Lib.hid hT
      clear hT
      go_wp2_with fail
      go_ret
      exact ⟨by rw [← HT.out]; rfl, fr_nil HF.out HFW.out⟩
set_option maxRecDepth 100000 in
set_option maxHeartbeats 16000000 in
theorem tells_walk {C : Cm} {K : Km} {V : Vm} {w : World} (hC : C.Ok w) (hK : K.Ok w) (hV : V.Ok w) (m : Int) (y : Bl) (now : Int) :
    Calls Try.prog 3 #[C.val, K.val, .agg (cyA m y V now)] w fun e w' => e = .returned (.bool true) ∧ Fr (fun _ => False) w w' := by
  have HF0 := Lib.hid ((((Fr.refl (fun _ => False) w).alloc (.cells C.arr 30)).alloc (.cells K.arr 35)).alloc (.cells (cyA m y V now) 42))
  have ic := ((Is.new w 30 C.arr).alloc (.cells K.arr 35)).alloc (.cells (cyA m y V now) 42)
  have ik := (Is.new (w.alloc (.cells C.arr 30)) 35 K.arr).alloc (.cells (cyA m y V now) 42)
  have ix := Is.new ((w.alloc (.cells C.arr 30)).alloc (.cells K.arr 35)) 42 (cyA m y V now)
  simp only [World.size_alloc] at ik ix
  have HIC := Lib.hid ic
  have HIK := Lib.hid ik
  have HIX := Lib.hid ix
  have HC := Lib.hid hC
  have HK := Lib.hid hK
  have HV := Lib.hid hV
  have KT := fun W (f : Fr (fun _ => False) w W) => bstep_any (hC.fr f) (hK.fr f) (hV.fr f) now
  have HKT := Lib.hid KT
  clear ic ik ix hC hK hV KT
  unfold cyA Cm.val Km.val Cm.arr Km.arr Vm.val Vm.arr at *
  go_enter Try.func3, Try.ntmps3
  go_upto_region 1 with fail
  generalize (((w.alloc _).alloc _).alloc _) = w0 at *
  go_wp2_with fail
  refine (lives15_any _).mono ?_
  rintro _ w1 ⟨rfl, f1⟩
  have HF := Lib.hid (fr_nil HF0.out f1)
  have HIC := Lib.hid (HIC.out.fr f1 id)
  have HIK := Lib.hid (HIK.out.fr f1 id)
  have HIX := Lib.hid (HIX.out.fr f1 id)
  clear f1 HF0
  obtain ⟨p0, p1, p2, p3, p4, p5, p6, p7, p8⟩ := nine9 HIC.out
  obtain ⟨k0, k1, k2, k3, k4, k5, k6⟩ := Bk.core7 (K := K) HIK.out
  obtain ⟨x0, x1, x2, x3, x4, x5, x6, x7, x8⟩ := nine9 HIX.out
  go_wp2_with fail
  refine (HKT.out _ HF.out).mono ?_
  rintro _ w2 ⟨K1, rfl, hk1, ho1, f2⟩
  have HK1 := Lib.hid hk1
  have HB := Lib.hid (bx_made ho1 f2)
  clear p0 p1 p2 p3 p4 p5 p6 p7 p8 k0 k1 k2 k3 k4 k5 k6 x0 x1 x2 x3 x4 x5 x6 x7 x8 hk1 ho1 f2 HKT
  unfold Km.val Km.arr
  go_upto_region 4 with fail
  generalize hw3 : w2.alloc _ = w3 at *
  generalize w2.heap.size = nb at *
  clear hw3
  have HF3 := Lib.hid (fr_nil HF.out HB.out.f)
  have HIC := Lib.hid (HIC.out.fr HB.out.f id)
  have HIK := Lib.hid (HIK.out.fr HB.out.f id)
  have HIX := Lib.hid (HIX.out.fr HB.out.f id)
  clear HF
  by_cases hok : (fitsB C.cf K.kp = true ∧ seesB C.cf V.vp = true) ∧ tmB now = true
  rotate_left
  · obtain ⟨er, her, hst⟩ : ∃ er : Int, er ≠ 0 ∧ (bstepM C.cf V.vp now K.kp).2 = er := by
      unfold bstepM
      by_cases h1 : (fitsB C.cf K.kp && seesB C.cf V.vp) = false
      · exact ⟨21, by decide, by rw [if_pos h1]⟩
      · rw [if_neg h1]
        by_cases h2 : tmB now = false
        · exact ⟨32, by decide, by rw [if_pos h2]⟩
        · exact absurd ⟨by simpa using h1, by simpa using h2⟩ hok
    rw [hst]
    have d1 : (er == 0) = false := by simpa using her
    have d2 : (er != 0) = true := by simpa using her
    clear hok her hst
    go_wp2_with fail
    go_ret
    exact ⟨rfl, HF3.out⟩
  have hst : bstepM C.cf V.vp now K.kp = (linesK C.cf V.vp now (!K.dirty) K.kp 4, 0) := by
    unfold bstepM
    rw [hok.1.1, hok.1.2, hok.2, if_neg (by decide), if_neg (by decide)]
    rfl
  have HFP := Lib.hid (fits_iff.1 hok.1.1)
  have HSE : Hid (V.occ.length = C.l.length) := Lib.hid (by
    have := hok.1.2
    unfold seesB at this
    simp only [Bool.and_eq_true, decide_eq_true_eq] at this
    exact this.1)
  rw [hst] at HK1 ⊢
  dsimp only at HK1 ⊢
  clear hst hok
  go_wp2_with fail
  go_loopg [9, 10, 11, 12, 13] 3 (fun gi v9 _ _ _ _ wr => ∃ n : Nat, 1 ≤ n ∧ n ≤ 4 ∧ gi = 4 - n ∧ v9 = .int .i64 (n : Nat) ∧ Fr (fun _ => False) w3 wr)
  case atStart => exact ⟨1, by decide, by decide, rfl, rfl, Fr.refl _ _⟩
  case round =>
    obtain ⟨n, hn1, hn4, rfl, rfl, fr⟩ := hrel
    have HN := Lib.hid (And.intro hn1 hn4)
    have HFR := Lib.hid fr
    by_cases hlt : n ≤ 3
    rotate_left
    · have e1 : decide ((n : Int) ≤ 3) = false := decide_eq_false (by omega)
      have e2 : decide (n ≤ 3) = false := decide_eq_false hlt
      clear hlt fr
      go_wp2_with fail
      go_ret
      exact ⟨rfl, fr_nil HF3.out HFR.out⟩
    have HLT := Lib.hid hlt
    have e1 : decide ((n : Int) ≤ 3) = true := decide_eq_true (by omega)
    have e2 : decide (n ≤ 3) = true := decide_eq_true hlt
    have KS := rsec_any (HC.out.fr (fr_nil HF3.out fr)) (n := n) (by omega)
    unfold Cm.val Cm.arr at KS
    obtain ⟨p0, p1, p2, p3, p4, p5, p6, p7, p8⟩ := nine9 (HIC.out.fr fr id)
    have i9 : wrap64 ((n : Int) + 1) = ((n + 1 : Nat) : Int) := by rw [IntWalk.wrap64_in _ ⟨by omega, by omega⟩]; omega
    clear fr
    cases hb : hasB C.l (n : Int)
    · have hneg : secAt C.l n < 0 := by
        unfold hasB at hb
        rw [decide_eq_true (show (1 : Int) ≤ n by omega), Bool.true_and] at hb
        exact Int.not_le.1 (of_decide_eq_false hb)
      have e3 : decide (secAt C.l n < 0) = true := decide_eq_true hneg
      clear hlt hn1 hn4 hb hneg
      generalize secAt C.l n = r at *
      go_wp2_with fail
      refine KS.mono ?_
      rintro _ wa ⟨rfl, fa⟩
      have HFA := Lib.hid (fr_nil HFR.out fa)
      clear KS fa p0 p1 p2 p3 p4 p5 p6 p7 p8
      go_wp2_with fail
      go_roundg (4 - (n + 1))
      case measure => have := HLT.out; omega
      case rel => exact ⟨n + 1, by omega, by have := HLT.out; omega, rfl, by first | rw [i9] | rfl, HFA.out⟩
    obtain ⟨s, es, hs, -⟩ := sec_at hb
    have hn5 : n < K.lns.length := by have : K.lns.length = 4 := HFP.out.l5; omega
    have ho5 : s < K.own.length := by have : K.own.length = C.l.length := HFP.out.l1; omega
    obtain ⟨t1, t2⟩ := lines_at (c := C.cf) (v := V.vp) (now := now) (rc := (!K.dirty)) (k := K.kp) (n := n) hb hn5 HFP.out.l1 4 (by omega)
    obtain ⟨-, -, -, -, m5, m6⟩ := lines_keep (c := C.cf) (v := V.vp) (now := now) (rc := (!K.dirty)) (k := K.kp) 4
    have hl1 : K1.own.length = K.own.length := by
      have : K1.kp.own.length = K.own.length := by rw [HK1.out]; exact m5
      exact this
    have hl2 : K1.lns.length = K.lns.length := by
      have : K1.kp.lns.length = K.lns.length := by rw [HK1.out]; exact m6
      exact this
    rw [← HK1.out] at t1 t2
    rw [show secAt C.cf.secs n = (s : Int) from es] at t2
    have hop : s < K1.own.length := by omega
    have hvp : s < V.occ.length := by have := HSE.out; omega
    have hisp : n < K1.lns.length := by omega
    have hwas : lnAt K.kp n = K.lns[n] := lnAt_get (k := K.kp) hn5
    have his : lnAt K1.kp n = K1.lns[n]'hisp := lnAt_get (k := K1.kp) (by show n < K1.lns.length; omega)
    have hown : ownAt K.kp.own s = K.own[s] := ownAt_nat ho5
    have hown1 : ownAt K1.kp.own s = K1.own[s]'hop := ownAt_nat (by show s < K1.own.length; omega)
    have hlk : loAt V.vp.occ s = V.occ[s]'hvp := loAt_nat (l := V.occ) (by have := HSE.out; omega)
    have hone : oneAt C.cf V.vp now (!K.dirty) n K.kp = one now (!K.dirty) (aheadB C.cf.sigs C.cf.rts K.kp.rts s) (V.occ[s]'hvp) K.lns[n] K.own[s] := by
      unfold oneAt
      rw [show secAt C.cf.secs n = (s : Int) from es, hwas, hown, hlk]
    obtain ⟨r1, r2, r3⟩ := one_tells (now := now) (rc := (!K.dirty)) (ah := aheadB C.cf.sigs C.cf.rts K.kp.rts s) (x := V.occ[s]'hvp) (l := K.lns[n]) (o := K.own[s])
    rw [his, hone] at t1
    rw [hown1, hone] at t2
    rw [← t1] at r1 r3
    rw [← t2] at r2 r3
    have HR := Lib.hid (And.intro r1 (And.intro r2 r3))
    clear r1 r2 r3 t1 t2 m5 m6 hwas his hown hown1 hlk hone
    rw [es] at KS
    have HL1 := Lib.hid hl1
    have HL2 := Lib.hid hl2
    clear hb es hl1 hl2
    go_wp2_with fail
    refine KS.mono ?_
    rintro _ wa ⟨rfl, fa⟩
    have HFA := Lib.hid (fr_nil HFR.out fa)
    clear KS fa p0 p1 p2 p3 p4 p5 p6 p7 p8 e1 e2 HFR
    have e3 : decide ((s : Int) < 0) = false := decide_eq_false (by omega)
    obtain ⟨gk, ok, hAk, a0, a1, a2, a3, a4, a5, a6, a7⟩ := rd_ln (HK.out.fr (fr_nil HF3.out HFA.out)).lns hn5
    obtain ⟨g1, o1, hA1, d0⟩ := rd_int (HK.out.fr (fr_nil HF3.out HFA.out)).own ho5
    have hl1 := HL1.out
    have hl2 := HL2.out
    obtain ⟨gn, on, hAn, c0, c1, c2, c3, c4, c5, c6, c7⟩ := rd_ln (wide_rd (HB.out.fr HFA.out).own.lns) hisp
    obtain ⟨g2, o2, hA2, d1⟩ := rd_int (wide_rd (HB.out.fr HFA.out).own.own) hop
    obtain ⟨g3, o3, hA3, f0, f1, f2⟩ := rd_lo (HV.out.fr (fr_nil HF3.out HFA.out)).occ hvp
    have hk4 : wa.cell? ⟨w.heap.size + 1, 4, none⟩ = some (.slice K.A5 K.lns.length K.c5) := (HIK.out.fr HFA.out id).cell 4
    have hk0 : wa.cell? ⟨w.heap.size + 1, 0, none⟩ = some (.slice K.A1 K.own.length K.c1) := (HIK.out.fr HFA.out id).cell 0
    have hk6 : wa.cell? ⟨w.heap.size + 1, 6, none⟩ = some (.bool K.dirty) := (HIK.out.fr HFA.out id).cell 6
    have hn4c : wa.cell? ⟨nb, 4, none⟩ = some (.slice K1.A5 K1.lns.length K1.c5) := (HB.out.is.fr HFA.out id).cell 4
    have hn0c : wa.cell? ⟨nb, 0, none⟩ = some (.slice K1.A1 K1.own.length K1.c1) := (HB.out.is.fr HFA.out id).cell 0
    have hx4 : wa.cell? ⟨w.heap.size + 1 + 1, 4, none⟩ = some (.slice V.A1 V.occ.length V.c1) := (HIX.out.fr HFA.out id).cell 4
    rw [hAk] at hk4
    rw [hA1] at hk0
    rw [hAn, hl2] at hn4c
    rw [hA2, hl1] at hn0c
    rw [hA3] at hx4
    have i1 : (0 : Int) ≤ (n : Int) := by omega
    have i2 : (n : Int) < (K.lns.length : Int) := by omega
    obtain ⟨was, nu, o, p, x, SCL, HR2⟩ : ∃ (was nu : Ln) (o p : Int) (x : Lo), (wa.cell? ⟨w.heap.size + 1, 4, none⟩ = some (.slice (some ⟨gk, ok, none⟩) K.lns.length K.c5) ∧ wa.cell? ⟨w.heap.size + 1, 0, none⟩ = some (.slice (some ⟨g1, o1, none⟩) K.own.length K.c1) ∧ wa.cell? ⟨w.heap.size + 1, 6, none⟩ = some (.bool K.dirty) ∧ wa.cell? ⟨nb, 4, none⟩ = some (.slice (some ⟨gn, on, none⟩) K.lns.length K1.c5) ∧ wa.cell? ⟨nb, 0, none⟩ = some (.slice (some ⟨g2, o2, none⟩) K.own.length K1.c1) ∧ wa.cell? ⟨w.heap.size + 1 + 1, 4, none⟩ = some (.slice (some ⟨g3, o3, none⟩) V.occ.length V.c1) ∧ wa.cell? ⟨gk, ok + n * 8, none⟩ = some (.int .i64 was.ask) ∧ wa.cell? ⟨gk, ok + n * 8 + 1, none⟩ = some (.int .i64 was.dn) ∧ wa.cell? ⟨gk, ok + n * 8 + 2, none⟩ = some (.int .i64 was.gr) ∧ wa.cell? ⟨gk, ok + n * 8 + 3, none⟩ = some (.int .i64 was.told) ∧ wa.cell? ⟨gk, ok + n * 8 + 4, none⟩ = some (.int .i64 was.pa) ∧ wa.cell? ⟨gk, ok + n * 8 + 5, none⟩ = some (.int .i64 was.pd) ∧ wa.cell? ⟨gk, ok + n * 8 + 6, none⟩ = some (.int .i64 was.pg) ∧ wa.cell? ⟨gk, ok + n * 8 + 7, none⟩ = some (.int .i64 was.since) ∧ wa.cell? ⟨gn, on + n * 8, none⟩ = some (.int .i64 nu.ask) ∧ wa.cell? ⟨gn, on + n * 8 + 1, none⟩ = some (.int .i64 nu.dn) ∧ wa.cell? ⟨gn, on + n * 8 + 2, none⟩ = some (.int .i64 nu.gr) ∧ wa.cell? ⟨gn, on + n * 8 + 3, none⟩ = some (.int .i64 nu.told) ∧ wa.cell? ⟨gn, on + n * 8 + 4, none⟩ = some (.int .i64 nu.pa) ∧ wa.cell? ⟨gn, on + n * 8 + 5, none⟩ = some (.int .i64 nu.pd) ∧ wa.cell? ⟨gn, on + n * 8 + 6, none⟩ = some (.int .i64 nu.pg) ∧ wa.cell? ⟨gn, on + n * 8 + 7, none⟩ = some (.int .i64 nu.since) ∧ wa.cell? ⟨g1, o1 + s, none⟩ = some (.int .i64 o) ∧ wa.cell? ⟨g2, o2 + s, none⟩ = some (.int .i64 p) ∧ wa.cell? ⟨g3, o3 + s * 3, none⟩ = some (.int .i64 x.val) ∧ wa.cell? ⟨g3, o3 + s * 3 + 1, none⟩ = some (.int .i64 x.stamp) ∧ wa.cell? ⟨g3, o3 + s * 3 + 2, none⟩ = some (.bool x.ok)) ∧ ((nu.told ≠ was.told → (!K.dirty) = true ∧ nu.told = was.gr) ∧ (o = -2 → p ≠ -2 → p = 0 ∧ was.gr ≤ was.pd ∧ was.since ≠ 0 ∧ x.ok = true ∧ x.val = 0 ∧ was.since ≤ x.stamp) ∧ (o ≠ -2 → p = -2 → o = 0 ∧ was.ask = was.dn ∧ was.gr < nu.gr)) :=
      ⟨K.lns[n]'hn5, K1.lns[n]'hisp, K.own[s]'ho5, K1.own[s]'hop, V.occ[s]'hvp, ⟨hk4, hk0, hk6, hn4c, hn0c, hx4, a0, a1, a2, a3, a4, a5, a6, a7, c0, c1, c2, c3, c4, c5, c6, c7, d0, d1, f0, f1, f2⟩, HR.out⟩
    have HR := Lib.hid HR2
    have HSC : Hid (∀ W, Fr (fun _ => False) wa W → W.cell? ⟨w.heap.size + 1, 4, none⟩ = some (.slice (some ⟨gk, ok, none⟩) K.lns.length K.c5) ∧ W.cell? ⟨w.heap.size + 1, 0, none⟩ = some (.slice (some ⟨g1, o1, none⟩) K.own.length K.c1) ∧ W.cell? ⟨w.heap.size + 1, 6, none⟩ = some (.bool K.dirty) ∧ W.cell? ⟨nb, 4, none⟩ = some (.slice (some ⟨gn, on, none⟩) K.lns.length K1.c5) ∧ W.cell? ⟨nb, 0, none⟩ = some (.slice (some ⟨g2, o2, none⟩) K.own.length K1.c1) ∧ W.cell? ⟨w.heap.size + 1 + 1, 4, none⟩ = some (.slice (some ⟨g3, o3, none⟩) V.occ.length V.c1) ∧ W.cell? ⟨gk, ok + n * 8, none⟩ = some (.int .i64 was.ask) ∧ W.cell? ⟨gk, ok + n * 8 + 1, none⟩ = some (.int .i64 was.dn) ∧ W.cell? ⟨gk, ok + n * 8 + 2, none⟩ = some (.int .i64 was.gr) ∧ W.cell? ⟨gk, ok + n * 8 + 3, none⟩ = some (.int .i64 was.told) ∧ W.cell? ⟨gk, ok + n * 8 + 4, none⟩ = some (.int .i64 was.pa) ∧ W.cell? ⟨gk, ok + n * 8 + 5, none⟩ = some (.int .i64 was.pd) ∧ W.cell? ⟨gk, ok + n * 8 + 6, none⟩ = some (.int .i64 was.pg) ∧ W.cell? ⟨gk, ok + n * 8 + 7, none⟩ = some (.int .i64 was.since) ∧ W.cell? ⟨gn, on + n * 8, none⟩ = some (.int .i64 nu.ask) ∧ W.cell? ⟨gn, on + n * 8 + 1, none⟩ = some (.int .i64 nu.dn) ∧ W.cell? ⟨gn, on + n * 8 + 2, none⟩ = some (.int .i64 nu.gr) ∧ W.cell? ⟨gn, on + n * 8 + 3, none⟩ = some (.int .i64 nu.told) ∧ W.cell? ⟨gn, on + n * 8 + 4, none⟩ = some (.int .i64 nu.pa) ∧ W.cell? ⟨gn, on + n * 8 + 5, none⟩ = some (.int .i64 nu.pd) ∧ W.cell? ⟨gn, on + n * 8 + 6, none⟩ = some (.int .i64 nu.pg) ∧ W.cell? ⟨gn, on + n * 8 + 7, none⟩ = some (.int .i64 nu.since) ∧ W.cell? ⟨g1, o1 + s, none⟩ = some (.int .i64 o) ∧ W.cell? ⟨g2, o2 + s, none⟩ = some (.int .i64 p) ∧ W.cell? ⟨g3, o3 + s * 3, none⟩ = some (.int .i64 x.val) ∧ W.cell? ⟨g3, o3 + s * 3 + 1, none⟩ = some (.int .i64 x.stamp) ∧ W.cell? ⟨g3, o3 + s * 3 + 2, none⟩ = some (.bool x.ok)) := Lib.hid (by
      obtain ⟨e0, e1, e2, e3, e4, e5, e6, e7, e8, e9, e10, e11, e12, e13, e14, e15, e16, e17, e18, e19, e20, e21, e22, e23, e24, e25, e26⟩ := SCL
      exact fun W f => ⟨(f.cell (World.block_lt_of_cell? _ _ e0) id).trans e0, (f.cell (World.block_lt_of_cell? _ _ e1) id).trans e1, (f.cell (World.block_lt_of_cell? _ _ e2) id).trans e2, (f.cell (World.block_lt_of_cell? _ _ e3) id).trans e3, (f.cell (World.block_lt_of_cell? _ _ e4) id).trans e4, (f.cell (World.block_lt_of_cell? _ _ e5) id).trans e5, (f.cell (World.block_lt_of_cell? _ _ e6) id).trans e6, (f.cell (World.block_lt_of_cell? _ _ e7) id).trans e7, (f.cell (World.block_lt_of_cell? _ _ e8) id).trans e8, (f.cell (World.block_lt_of_cell? _ _ e9) id).trans e9, (f.cell (World.block_lt_of_cell? _ _ e10) id).trans e10, (f.cell (World.block_lt_of_cell? _ _ e11) id).trans e11, (f.cell (World.block_lt_of_cell? _ _ e12) id).trans e12, (f.cell (World.block_lt_of_cell? _ _ e13) id).trans e13, (f.cell (World.block_lt_of_cell? _ _ e14) id).trans e14, (f.cell (World.block_lt_of_cell? _ _ e15) id).trans e15, (f.cell (World.block_lt_of_cell? _ _ e16) id).trans e16, (f.cell (World.block_lt_of_cell? _ _ e17) id).trans e17, (f.cell (World.block_lt_of_cell? _ _ e18) id).trans e18, (f.cell (World.block_lt_of_cell? _ _ e19) id).trans e19, (f.cell (World.block_lt_of_cell? _ _ e20) id).trans e20, (f.cell (World.block_lt_of_cell? _ _ e21) id).trans e21, (f.cell (World.block_lt_of_cell? _ _ e22) id).trans e22, (f.cell (World.block_lt_of_cell? _ _ e23) id).trans e23, (f.cell (World.block_lt_of_cell? _ _ e24) id).trans e24, (f.cell (World.block_lt_of_cell? _ _ e25) id).trans e25, (f.cell (World.block_lt_of_cell? _ _ e26) id).trans e26⟩)
    have HN5 := Lib.hid i2
    have HO5 : Hid ((s : Int) < (K.own.length : Int)) := Lib.hid (by omega)
    have HV5 : Hid ((s : Int) < (V.occ.length : Int)) := Lib.hid (by omega)
    obtain ⟨hk4, -, -, hn4c, -, -, a0, a1, a2, a3, a4, a5, a6, a7, c0, c1, c2, c3, c4, c5, c6, c7, -⟩ := SCL
    clear HR2 hk0 hk6 hn0c hx4 d0 d1 f0 f1 f2 hAk hAn hA1 hA2 hA3 hl1 hl2
    have HS : Hid (∀ W, Fr (fun _ => False) wa W → W.cell? ⟨w.heap.size + 1, 4, none⟩ = some (.slice (some ⟨gk, ok, none⟩) K.lns.length K.c5) ∧ W.cell? ⟨nb, 4, none⟩ = some (.slice (some ⟨gn, on, none⟩) K.lns.length K1.c5) ∧ W.cell? ⟨gk, ok + n * 8, none⟩ = some (.int .i64 was.ask) ∧ W.cell? ⟨gk, ok + n * 8 + 1, none⟩ = some (.int .i64 was.dn) ∧ W.cell? ⟨gk, ok + n * 8 + 2, none⟩ = some (.int .i64 was.gr) ∧ W.cell? ⟨gk, ok + n * 8 + 3, none⟩ = some (.int .i64 was.told) ∧ W.cell? ⟨gk, ok + n * 8 + 4, none⟩ = some (.int .i64 was.pa) ∧ W.cell? ⟨gk, ok + n * 8 + 5, none⟩ = some (.int .i64 was.pd) ∧ W.cell? ⟨gk, ok + n * 8 + 6, none⟩ = some (.int .i64 was.pg) ∧ W.cell? ⟨gk, ok + n * 8 + 7, none⟩ = some (.int .i64 was.since) ∧ W.cell? ⟨gn, on + n * 8, none⟩ = some (.int .i64 nu.ask) ∧ W.cell? ⟨gn, on + n * 8 + 1, none⟩ = some (.int .i64 nu.dn) ∧ W.cell? ⟨gn, on + n * 8 + 2, none⟩ = some (.int .i64 nu.gr) ∧ W.cell? ⟨gn, on + n * 8 + 3, none⟩ = some (.int .i64 nu.told) ∧ W.cell? ⟨gn, on + n * 8 + 4, none⟩ = some (.int .i64 nu.pa) ∧ W.cell? ⟨gn, on + n * 8 + 5, none⟩ = some (.int .i64 nu.pd) ∧ W.cell? ⟨gn, on + n * 8 + 6, none⟩ = some (.int .i64 nu.pg) ∧ W.cell? ⟨gn, on + n * 8 + 7, none⟩ = some (.int .i64 nu.since)) := Lib.hid fun W f => ⟨(f.cell (World.block_lt_of_cell? _ _ hk4) id).trans hk4, (f.cell (World.block_lt_of_cell? _ _ hn4c) id).trans hn4c, (f.cell (World.block_lt_of_cell? _ _ a0) id).trans a0, (f.cell (World.block_lt_of_cell? _ _ a1) id).trans a1, (f.cell (World.block_lt_of_cell? _ _ a2) id).trans a2, (f.cell (World.block_lt_of_cell? _ _ a3) id).trans a3, (f.cell (World.block_lt_of_cell? _ _ a4) id).trans a4, (f.cell (World.block_lt_of_cell? _ _ a5) id).trans a5, (f.cell (World.block_lt_of_cell? _ _ a6) id).trans a6, (f.cell (World.block_lt_of_cell? _ _ a7) id).trans a7, (f.cell (World.block_lt_of_cell? _ _ c0) id).trans c0, (f.cell (World.block_lt_of_cell? _ _ c1) id).trans c1, (f.cell (World.block_lt_of_cell? _ _ c2) id).trans c2, (f.cell (World.block_lt_of_cell? _ _ c3) id).trans c3, (f.cell (World.block_lt_of_cell? _ _ c4) id).trans c4, (f.cell (World.block_lt_of_cell? _ _ c5) id).trans c5, (f.cell (World.block_lt_of_cell? _ _ c6) id).trans c6, (f.cell (World.block_lt_of_cell? _ _ c7) id).trans c7⟩
    go_upto_region 11 with fail
    clear a0 a1 a2 a3 a4 a5 a6 a7 c0 c1 c2 c3 c4 c5 c6 c7 hk4 hn4c
    go_cut [11, 12] from 37 to 47 (fun v11 v12 wx => ∃ b1 b2 : Nat, v11 = .pointer (some ⟨b1, 0, none⟩) ∧ v12 = .pointer (some ⟨b2, 0, none⟩) ∧ Is wx b1 49 #[.int .i64 was.ask, .int .i64 was.dn, .int .i64 was.gr, .int .i64 was.told, .int .i64 was.pa, .int .i64 was.pd, .int .i64 was.pg, .int .i64 was.since] ∧ Is wx b2 49 #[.int .i64 nu.ask, .int .i64 nu.dn, .int .i64 nu.gr, .int .i64 nu.told, .int .i64 nu.pa, .int .i64 nu.pd, .int .i64 nu.pg, .int .i64 nu.since] ∧ Fr (fun _ => False) wa wx)
    case first =>
      have HG := Lib.hid (Fr.refl (fun _ => False) wa).drew
      refine wp_region_held_drew (S := (fun Wx => Wx.cell? ⟨w.heap.size + 1, 4, none⟩ = some (.slice (some ⟨gk, ok, none⟩) K.lns.length K.c5) ∧ Wx.cell? ⟨nb, 4, none⟩ = some (.slice (some ⟨gn, on, none⟩) K.lns.length K1.c5) ∧ Wx.cell? ⟨gk, ok + n * 8, none⟩ = some (.int .i64 was.ask) ∧ Wx.cell? ⟨gk, ok + n * 8 + 1, none⟩ = some (.int .i64 was.dn) ∧ Wx.cell? ⟨gk, ok + n * 8 + 2, none⟩ = some (.int .i64 was.gr) ∧ Wx.cell? ⟨gk, ok + n * 8 + 3, none⟩ = some (.int .i64 was.told) ∧ Wx.cell? ⟨gk, ok + n * 8 + 4, none⟩ = some (.int .i64 was.pa) ∧ Wx.cell? ⟨gk, ok + n * 8 + 5, none⟩ = some (.int .i64 was.pd) ∧ Wx.cell? ⟨gk, ok + n * 8 + 6, none⟩ = some (.int .i64 was.pg) ∧ Wx.cell? ⟨gk, ok + n * 8 + 7, none⟩ = some (.int .i64 was.since) ∧ Wx.cell? ⟨gn, on + n * 8, none⟩ = some (.int .i64 nu.ask) ∧ Wx.cell? ⟨gn, on + n * 8 + 1, none⟩ = some (.int .i64 nu.dn) ∧ Wx.cell? ⟨gn, on + n * 8 + 2, none⟩ = some (.int .i64 nu.gr) ∧ Wx.cell? ⟨gn, on + n * 8 + 3, none⟩ = some (.int .i64 nu.told) ∧ Wx.cell? ⟨gn, on + n * 8 + 4, none⟩ = some (.int .i64 nu.pa) ∧ Wx.cell? ⟨gn, on + n * 8 + 5, none⟩ = some (.int .i64 nu.pd) ∧ Wx.cell? ⟨gn, on + n * 8 + 6, none⟩ = some (.int .i64 nu.pg) ∧ Wx.cell? ⟨gn, on + n * 8 + 7, none⟩ = some (.int .i64 nu.since))) (by kernel_rfl) (HS.out _ (Fr.refl _ wa).drew) (fun hHeld => ?_)
      generalize wa.drew = wdr at *
      refine wpAnyH_take (i := 0) (oi := { dst := some 37, op := _, type := _, pos := _, after := _, guard := _ }) (v := ?_) rfl (by kernel_rfl) (by kernel_rfl) (by kernel_rfl) (fun _ _ _ h => h) (Or.inl ⟨by rfl, ?_⟩) (by assumption) ?_
      rotate_left
      · intro Wx hSw
        try dsimp only at hSw
        go_simp
        try with_reducible rfl
      try simp only [Act.put, List.setIfInBounds_toArray, List.set_cons_zero, List.set_cons_succ]
      refine wpAnyH_take (i := 1) (oi := { dst := some 38, op := _, type := _, pos := _, after := _, guard := _ }) (v := ?_) rfl (by kernel_rfl) (by kernel_rfl) (by kernel_rfl) (fun _ _ _ h => h) (Or.inl ⟨by rfl, ?_⟩) (by assumption) ?_
      rotate_left
      · intro Wx hSw
        try dsimp only at hSw
        go_simp
        try with_reducible rfl
      try simp only [Act.put, List.setIfInBounds_toArray, List.set_cons_zero, List.set_cons_succ]
      refine wpAnyH_take (i := 2) (oi := { dst := some 39, op := _, type := _, pos := _, after := _, guard := _ }) (v := ?_) rfl (by kernel_rfl) (by kernel_rfl) (by kernel_rfl) (fun _ _ _ h => h) (Or.inl ⟨by rfl, ?_⟩) (by assumption) ?_
      rotate_left
      · intro Wx hSw
        try dsimp only at hSw
        go_simp
        try with_reducible rfl
      try simp only [Act.put, List.setIfInBounds_toArray, List.set_cons_zero, List.set_cons_succ]
      refine wpAnyH_take (i := 3) (oi := { dst := some 40, op := _, type := _, pos := _, after := _, guard := _ }) (v := ?_) rfl (by kernel_rfl) (by kernel_rfl) (by kernel_rfl) (fun _ _ _ h => h) (Or.inl ⟨by rfl, ?_⟩) (by assumption) ?_
      rotate_left
      · intro Wx hSw
        try dsimp only at hSw
        go_simp
        try with_reducible rfl
      try simp only [Act.put, List.setIfInBounds_toArray, List.set_cons_zero, List.set_cons_succ]
      refine wpAnyH_take (i := 4) (oi := { dst := some 41, op := _, type := _, pos := _, after := _, guard := _ }) (v := ?_) rfl (by kernel_rfl) (by kernel_rfl) (by kernel_rfl) (fun _ _ _ h => h) (Or.inl ⟨by rfl, ?_⟩) (by assumption) ?_
      rotate_left
      · intro Wx hSw
        try dsimp only at hSw
        go_simp
        try with_reducible rfl
      try simp only [Act.put, List.setIfInBounds_toArray, List.set_cons_zero, List.set_cons_succ]
      refine wpAnyH_take (i := 5) (oi := { dst := some 42, op := _, type := _, pos := _, after := _, guard := _ }) (v := ?_) rfl (by kernel_rfl) (by kernel_rfl) (by kernel_rfl) (fun _ _ _ h => h) (Or.inl ⟨by rfl, ?_⟩) (by assumption) ?_
      rotate_left
      · intro Wx hSw
        try dsimp only at hSw
        go_simp
        try with_reducible rfl
      try simp only [Act.put, List.setIfInBounds_toArray, List.set_cons_zero, List.set_cons_succ]
      refine wpAnyH_take (i := 6) (oi := { dst := some 43, op := _, type := _, pos := _, after := _, guard := _ }) (v := ?_) rfl (by kernel_rfl) (by kernel_rfl) (by kernel_rfl) (fun _ _ _ h => h) (Or.inl ⟨by rfl, ?_⟩) (by assumption) ?_
      rotate_left
      · intro Wx hSw
        try dsimp only at hSw
        go_simp
        try with_reducible rfl
      try simp only [Act.put, List.setIfInBounds_toArray, List.set_cons_zero, List.set_cons_succ]
      refine wpAnyH_take (i := 7) (oi := { dst := some 44, op := _, type := _, pos := _, after := _, guard := _ }) (v := ?_) rfl (by kernel_rfl) (by kernel_rfl) (by kernel_rfl) (fun _ _ _ h => h) (Or.inl ⟨by rfl, ?_⟩) (by assumption) ?_
      rotate_left
      · intro Wx hSw
        try dsimp only at hSw
        go_simp
        try with_reducible rfl
      try simp only [Act.put, List.setIfInBounds_toArray, List.set_cons_zero, List.set_cons_succ]
      refine wpAnyH_take (i := 8) (oi := { dst := some 45, op := _, type := _, pos := _, after := _, guard := _ }) (v := ?_) rfl (by kernel_rfl) (by kernel_rfl) (by kernel_rfl) (fun _ _ _ h => h) (Or.inl ⟨by rfl, ?_⟩) (by assumption) ?_
      rotate_left
      · intro Wx hSw
        try dsimp only at hSw
        go_simp
        try with_reducible rfl
      try simp only [Act.put, List.setIfInBounds_toArray, List.set_cons_zero, List.set_cons_succ]
      refine wpAnyH_take (i := 9) (oi := { dst := some 46, op := _, type := _, pos := _, after := _, guard := _ }) (v := ?_) rfl (by kernel_rfl) (by kernel_rfl) (by kernel_rfl) (fun _ _ _ h => h) (Or.inl ⟨by rfl, ?_⟩) (by assumption) ?_
      rotate_left
      · intro Wx hSw
        try dsimp only at hSw
        go_simp
        try with_reducible rfl
      try simp only [Act.put, List.setIfInBounds_toArray, List.set_cons_zero, List.set_cons_succ]
      refine wpAnyH_ready (rs := [10, 11]) (by kernel_rfl) (by simp) (AllReadyH.cons rfl (fun KK hKK => ?_) (AllReadyH.cons rfl (fun KK hKK => ?_) (AllReadyH.nil)))
      · go_simp
        have HI1 := Lib.hid (Is.new (wdr) 49 #[.int .i64 0, .int .i64 0, .int .i64 0, .int .i64 0, .int .i64 0, .int .i64 0, .int .i64 0, .int .i64 0])
        have HG1 : Hid (wa.heap.size ≤ (wdr).heap.size) := Lib.hid HG.out.size
        have HG := Lib.hid (HG.out.alloc (.cells #[.int .i64 0, .int .i64 0, .int .i64 0, .int .i64 0, .int .i64 0, .int .i64 0, .int .i64 0, .int .i64 0] 49))
        have HI1L : Hid ((wdr).heap.size < ((wdr).alloc (.cells #[.int .i64 0, .int .i64 0, .int .i64 0, .int .i64 0, .int .i64 0, .int .i64 0, .int .i64 0, .int .i64 0] 49)).heap.size) := Lib.hid HI1.out.lt
        (with_reducible refine hKK.out _ _ (HS.out _ HG.out) (fun hHeld => ?_))
        clear hKK KK
        generalize (wdr).alloc (.cells #[.int .i64 0, .int .i64 0, .int .i64 0, .int .i64 0, .int .i64 0, .int .i64 0, .int .i64 0, .int .i64 0] 49) = wv1 at *
        generalize (wdr).heap.size = bv1 at *
        refine wpAnyH_ready (rs := [11]) (by kernel_rfl) (by simp) (AllReadyH.cons rfl (fun KK hKK => ?_) (AllReadyH.nil))
        go_simp
        have HI2 := Lib.hid (Is.new (wv1) 49 #[.int .i64 0, .int .i64 0, .int .i64 0, .int .i64 0, .int .i64 0, .int .i64 0, .int .i64 0, .int .i64 0])
        have HG2 : Hid (wa.heap.size ≤ (wv1).heap.size) := Lib.hid HG.out.size
        have HI1 := Lib.hid (HI1.out.alloc (.cells #[.int .i64 0, .int .i64 0, .int .i64 0, .int .i64 0, .int .i64 0, .int .i64 0, .int .i64 0, .int .i64 0] 49))
        have HNE : Hid ((bv1) ≠ (wv1).heap.size) := Lib.hid (Nat.ne_of_lt HI1L.out)
        have HG := Lib.hid (HG.out.alloc (.cells #[.int .i64 0, .int .i64 0, .int .i64 0, .int .i64 0, .int .i64 0, .int .i64 0, .int .i64 0, .int .i64 0] 49))
        have HI2L : Hid ((wv1).heap.size < ((wv1).alloc (.cells #[.int .i64 0, .int .i64 0, .int .i64 0, .int .i64 0, .int .i64 0, .int .i64 0, .int .i64 0, .int .i64 0] 49)).heap.size) := Lib.hid HI2.out.lt
        (with_reducible refine hKK.out _ _ (HS.out _ HG.out) (fun hHeld => ?_))
        clear hKK KK
        generalize (wv1).alloc (.cells #[.int .i64 0, .int .i64 0, .int .i64 0, .int .i64 0, .int .i64 0, .int .i64 0, .int .i64 0, .int .i64 0] 49) = wv2 at *
        generalize (wv1).heap.size = bv2 at *
        refine wpAnyH_ready (rs := [12]) (by kernel_rfl) (by simp) (AllReadyH.cons rfl (fun KK hKK => ?_) (AllReadyH.nil))
        have isr := HI1.out
        have m0 := isr.cell 0
        have z0 := isr.frozen 0
        have m1 := isr.cell 1
        have z1 := isr.frozen 1
        have m2 := isr.cell 2
        have z2 := isr.frozen 2
        have m3 := isr.cell 3
        have z3 := isr.frozen 3
        have m4 := isr.cell 4
        have z4 := isr.frozen 4
        have m5 := isr.cell 5
        have z5 := isr.frozen 5
        have m6 := isr.cell 6
        have z6 := isr.frozen 6
        have m7 := isr.cell 7
        have z7 := isr.frozen 7
        simp only [List.getElem?_toArray, List.getElem?_cons_zero, List.getElem?_cons_succ] at m0 m1 m2 m3 m4 m5 m6 m7
        go_simp
        have isR := ((((((((isr.set 0 (.int .i64 was.ask)).set 1 (.int .i64 was.dn)).set 2 (.int .i64 was.gr)).set 3 (.int .i64 was.told)).set 4 (.int .i64 was.pa)).set 5 (.int .i64 was.pd)).set 6 (.int .i64 was.pg)).set 7 (.int .i64 was.since))
        have fR := (((((((((Fr.refl (fun q => q = bv1) (wv2)).setCell (p := ⟨bv1, 0, none⟩) (.inl rfl) (.int .i64 was.ask)).setCell (p := ⟨bv1, 1, none⟩) (.inl rfl) (.int .i64 was.dn)).setCell (p := ⟨bv1, 2, none⟩) (.inl rfl) (.int .i64 was.gr)).setCell (p := ⟨bv1, 3, none⟩) (.inl rfl) (.int .i64 was.told)).setCell (p := ⟨bv1, 4, none⟩) (.inl rfl) (.int .i64 was.pa)).setCell (p := ⟨bv1, 5, none⟩) (.inl rfl) (.int .i64 was.pd)).setCell (p := ⟨bv1, 6, none⟩) (.inl rfl) (.int .i64 was.pg)).setCell (p := ⟨bv1, 7, none⟩) (.inl rfl) (.int .i64 was.since))
        simp only [List.setIfInBounds_toArray, List.set_cons_zero, List.set_cons_succ] at isR
        have HI1 := Lib.hid isR
        have HI2 := Lib.hid (HI2.out.fr fR (fun e => HNE.out e.symm))
        have HG := Lib.hid (((((((((HG.out.setCell (p := ⟨bv1, 0, none⟩) (.inr HG1.out) (.int .i64 was.ask)).setCell (p := ⟨bv1, 1, none⟩) (.inr HG1.out) (.int .i64 was.dn)).setCell (p := ⟨bv1, 2, none⟩) (.inr HG1.out) (.int .i64 was.gr)).setCell (p := ⟨bv1, 3, none⟩) (.inr HG1.out) (.int .i64 was.told)).setCell (p := ⟨bv1, 4, none⟩) (.inr HG1.out) (.int .i64 was.pa)).setCell (p := ⟨bv1, 5, none⟩) (.inr HG1.out) (.int .i64 was.pd)).setCell (p := ⟨bv1, 6, none⟩) (.inr HG1.out) (.int .i64 was.pg)).setCell (p := ⟨bv1, 7, none⟩) (.inr HG1.out) (.int .i64 was.since)))
        clear isR fR isr
        (with_reducible refine hKK.out _ _ (HS.out _ HG.out) (fun hHeld => ?_))
        clear hKK KK
        clear m0 z0 m1 z1 m2 z2 m3 z3 m4 z4 m5 z5 m6 z6 m7 z7
        generalize (((((((((wv2).setCell ⟨bv1, 0, none⟩ (.int .i64 was.ask)).setCell ⟨bv1, 1, none⟩ (.int .i64 was.dn)).setCell ⟨bv1, 2, none⟩ (.int .i64 was.gr)).setCell ⟨bv1, 3, none⟩ (.int .i64 was.told)).setCell ⟨bv1, 4, none⟩ (.int .i64 was.pa)).setCell ⟨bv1, 5, none⟩ (.int .i64 was.pd)).setCell ⟨bv1, 6, none⟩ (.int .i64 was.pg)).setCell ⟨bv1, 7, none⟩ (.int .i64 was.since)) = wz1 at *
        refine wpAnyH_ready (rs := [13]) (by kernel_rfl) (by simp) (AllReadyH.cons rfl (fun KK hKK => ?_) (AllReadyH.nil))
        have isr := HI2.out
        have m0 := isr.cell 0
        have z0 := isr.frozen 0
        have m1 := isr.cell 1
        have z1 := isr.frozen 1
        have m2 := isr.cell 2
        have z2 := isr.frozen 2
        have m3 := isr.cell 3
        have z3 := isr.frozen 3
        have m4 := isr.cell 4
        have z4 := isr.frozen 4
        have m5 := isr.cell 5
        have z5 := isr.frozen 5
        have m6 := isr.cell 6
        have z6 := isr.frozen 6
        have m7 := isr.cell 7
        have z7 := isr.frozen 7
        simp only [List.getElem?_toArray, List.getElem?_cons_zero, List.getElem?_cons_succ] at m0 m1 m2 m3 m4 m5 m6 m7
        go_simp
        have isR := ((((((((isr.set 0 (.int .i64 nu.ask)).set 1 (.int .i64 nu.dn)).set 2 (.int .i64 nu.gr)).set 3 (.int .i64 nu.told)).set 4 (.int .i64 nu.pa)).set 5 (.int .i64 nu.pd)).set 6 (.int .i64 nu.pg)).set 7 (.int .i64 nu.since))
        have fR := (((((((((Fr.refl (fun q => q = bv2) (wz1)).setCell (p := ⟨bv2, 0, none⟩) (.inl rfl) (.int .i64 nu.ask)).setCell (p := ⟨bv2, 1, none⟩) (.inl rfl) (.int .i64 nu.dn)).setCell (p := ⟨bv2, 2, none⟩) (.inl rfl) (.int .i64 nu.gr)).setCell (p := ⟨bv2, 3, none⟩) (.inl rfl) (.int .i64 nu.told)).setCell (p := ⟨bv2, 4, none⟩) (.inl rfl) (.int .i64 nu.pa)).setCell (p := ⟨bv2, 5, none⟩) (.inl rfl) (.int .i64 nu.pd)).setCell (p := ⟨bv2, 6, none⟩) (.inl rfl) (.int .i64 nu.pg)).setCell (p := ⟨bv2, 7, none⟩) (.inl rfl) (.int .i64 nu.since))
        simp only [List.setIfInBounds_toArray, List.set_cons_zero, List.set_cons_succ] at isR
        have HI2 := Lib.hid isR
        have HI1 := Lib.hid (HI1.out.fr fR HNE.out)
        have HG := Lib.hid (((((((((HG.out.setCell (p := ⟨bv2, 0, none⟩) (.inr HG2.out) (.int .i64 nu.ask)).setCell (p := ⟨bv2, 1, none⟩) (.inr HG2.out) (.int .i64 nu.dn)).setCell (p := ⟨bv2, 2, none⟩) (.inr HG2.out) (.int .i64 nu.gr)).setCell (p := ⟨bv2, 3, none⟩) (.inr HG2.out) (.int .i64 nu.told)).setCell (p := ⟨bv2, 4, none⟩) (.inr HG2.out) (.int .i64 nu.pa)).setCell (p := ⟨bv2, 5, none⟩) (.inr HG2.out) (.int .i64 nu.pd)).setCell (p := ⟨bv2, 6, none⟩) (.inr HG2.out) (.int .i64 nu.pg)).setCell (p := ⟨bv2, 7, none⟩) (.inr HG2.out) (.int .i64 nu.since)))
        clear isR fR isr
        (with_reducible refine hKK.out _ _ (HS.out _ HG.out) (fun hHeld => ?_))
        clear hKK KK
        clear m0 z0 m1 z1 m2 z2 m3 z3 m4 z4 m5 z5 m6 z6 m7 z7
        generalize (((((((((wz1).setCell ⟨bv2, 0, none⟩ (.int .i64 nu.ask)).setCell ⟨bv2, 1, none⟩ (.int .i64 nu.dn)).setCell ⟨bv2, 2, none⟩ (.int .i64 nu.gr)).setCell ⟨bv2, 3, none⟩ (.int .i64 nu.told)).setCell ⟨bv2, 4, none⟩ (.int .i64 nu.pa)).setCell ⟨bv2, 5, none⟩ (.int .i64 nu.pd)).setCell ⟨bv2, 6, none⟩ (.int .i64 nu.pg)).setCell ⟨bv2, 7, none⟩ (.int .i64 nu.since)) = wz2 at *
        refine wpAnyH_done (by kernel_rfl) ?_ _
        go_wp2_with fail
        go_meet
        case rel => exact ⟨_, _, rfl, rfl, HI1.out, HI2.out, HG.out⟩
      · go_simp
        have HI2 := Lib.hid (Is.new (wdr) 49 #[.int .i64 0, .int .i64 0, .int .i64 0, .int .i64 0, .int .i64 0, .int .i64 0, .int .i64 0, .int .i64 0])
        have HG2 : Hid (wa.heap.size ≤ (wdr).heap.size) := Lib.hid HG.out.size
        have HG := Lib.hid (HG.out.alloc (.cells #[.int .i64 0, .int .i64 0, .int .i64 0, .int .i64 0, .int .i64 0, .int .i64 0, .int .i64 0, .int .i64 0] 49))
        have HI2L : Hid ((wdr).heap.size < ((wdr).alloc (.cells #[.int .i64 0, .int .i64 0, .int .i64 0, .int .i64 0, .int .i64 0, .int .i64 0, .int .i64 0, .int .i64 0] 49)).heap.size) := Lib.hid HI2.out.lt
        (with_reducible refine hKK.out _ _ (HS.out _ HG.out) (fun hHeld => ?_))
        clear hKK KK
        generalize (wdr).alloc (.cells #[.int .i64 0, .int .i64 0, .int .i64 0, .int .i64 0, .int .i64 0, .int .i64 0, .int .i64 0, .int .i64 0] 49) = wv2 at *
        generalize (wdr).heap.size = bv2 at *
        refine wpAnyH_ready (rs := [10]) (by kernel_rfl) (by simp) (AllReadyH.cons rfl (fun KK hKK => ?_) (AllReadyH.nil))
        go_simp
        have HI1 := Lib.hid (Is.new (wv2) 49 #[.int .i64 0, .int .i64 0, .int .i64 0, .int .i64 0, .int .i64 0, .int .i64 0, .int .i64 0, .int .i64 0])
        have HG1 : Hid (wa.heap.size ≤ (wv2).heap.size) := Lib.hid HG.out.size
        have HI2 := Lib.hid (HI2.out.alloc (.cells #[.int .i64 0, .int .i64 0, .int .i64 0, .int .i64 0, .int .i64 0, .int .i64 0, .int .i64 0, .int .i64 0] 49))
        have HNE : Hid ((bv2) ≠ (wv2).heap.size) := Lib.hid (Nat.ne_of_lt HI2L.out)
        have HG := Lib.hid (HG.out.alloc (.cells #[.int .i64 0, .int .i64 0, .int .i64 0, .int .i64 0, .int .i64 0, .int .i64 0, .int .i64 0, .int .i64 0] 49))
        have HI1L : Hid ((wv2).heap.size < ((wv2).alloc (.cells #[.int .i64 0, .int .i64 0, .int .i64 0, .int .i64 0, .int .i64 0, .int .i64 0, .int .i64 0, .int .i64 0] 49)).heap.size) := Lib.hid HI1.out.lt
        (with_reducible refine hKK.out _ _ (HS.out _ HG.out) (fun hHeld => ?_))
        clear hKK KK
        generalize (wv2).alloc (.cells #[.int .i64 0, .int .i64 0, .int .i64 0, .int .i64 0, .int .i64 0, .int .i64 0, .int .i64 0, .int .i64 0] 49) = wv1 at *
        generalize (wv2).heap.size = bv1 at *
        refine wpAnyH_ready (rs := [12]) (by kernel_rfl) (by simp) (AllReadyH.cons rfl (fun KK hKK => ?_) (AllReadyH.nil))
        have isr := HI1.out
        have m0 := isr.cell 0
        have z0 := isr.frozen 0
        have m1 := isr.cell 1
        have z1 := isr.frozen 1
        have m2 := isr.cell 2
        have z2 := isr.frozen 2
        have m3 := isr.cell 3
        have z3 := isr.frozen 3
        have m4 := isr.cell 4
        have z4 := isr.frozen 4
        have m5 := isr.cell 5
        have z5 := isr.frozen 5
        have m6 := isr.cell 6
        have z6 := isr.frozen 6
        have m7 := isr.cell 7
        have z7 := isr.frozen 7
        simp only [List.getElem?_toArray, List.getElem?_cons_zero, List.getElem?_cons_succ] at m0 m1 m2 m3 m4 m5 m6 m7
        go_simp
        have isR := ((((((((isr.set 0 (.int .i64 was.ask)).set 1 (.int .i64 was.dn)).set 2 (.int .i64 was.gr)).set 3 (.int .i64 was.told)).set 4 (.int .i64 was.pa)).set 5 (.int .i64 was.pd)).set 6 (.int .i64 was.pg)).set 7 (.int .i64 was.since))
        have fR := (((((((((Fr.refl (fun q => q = bv1) (wv1)).setCell (p := ⟨bv1, 0, none⟩) (.inl rfl) (.int .i64 was.ask)).setCell (p := ⟨bv1, 1, none⟩) (.inl rfl) (.int .i64 was.dn)).setCell (p := ⟨bv1, 2, none⟩) (.inl rfl) (.int .i64 was.gr)).setCell (p := ⟨bv1, 3, none⟩) (.inl rfl) (.int .i64 was.told)).setCell (p := ⟨bv1, 4, none⟩) (.inl rfl) (.int .i64 was.pa)).setCell (p := ⟨bv1, 5, none⟩) (.inl rfl) (.int .i64 was.pd)).setCell (p := ⟨bv1, 6, none⟩) (.inl rfl) (.int .i64 was.pg)).setCell (p := ⟨bv1, 7, none⟩) (.inl rfl) (.int .i64 was.since))
        simp only [List.setIfInBounds_toArray, List.set_cons_zero, List.set_cons_succ] at isR
        have HI1 := Lib.hid isR
        have HI2 := Lib.hid (HI2.out.fr fR HNE.out)
        have HG := Lib.hid (((((((((HG.out.setCell (p := ⟨bv1, 0, none⟩) (.inr HG1.out) (.int .i64 was.ask)).setCell (p := ⟨bv1, 1, none⟩) (.inr HG1.out) (.int .i64 was.dn)).setCell (p := ⟨bv1, 2, none⟩) (.inr HG1.out) (.int .i64 was.gr)).setCell (p := ⟨bv1, 3, none⟩) (.inr HG1.out) (.int .i64 was.told)).setCell (p := ⟨bv1, 4, none⟩) (.inr HG1.out) (.int .i64 was.pa)).setCell (p := ⟨bv1, 5, none⟩) (.inr HG1.out) (.int .i64 was.pd)).setCell (p := ⟨bv1, 6, none⟩) (.inr HG1.out) (.int .i64 was.pg)).setCell (p := ⟨bv1, 7, none⟩) (.inr HG1.out) (.int .i64 was.since)))
        clear isR fR isr
        (with_reducible refine hKK.out _ _ (HS.out _ HG.out) (fun hHeld => ?_))
        clear hKK KK
        clear m0 z0 m1 z1 m2 z2 m3 z3 m4 z4 m5 z5 m6 z6 m7 z7
        generalize (((((((((wv1).setCell ⟨bv1, 0, none⟩ (.int .i64 was.ask)).setCell ⟨bv1, 1, none⟩ (.int .i64 was.dn)).setCell ⟨bv1, 2, none⟩ (.int .i64 was.gr)).setCell ⟨bv1, 3, none⟩ (.int .i64 was.told)).setCell ⟨bv1, 4, none⟩ (.int .i64 was.pa)).setCell ⟨bv1, 5, none⟩ (.int .i64 was.pd)).setCell ⟨bv1, 6, none⟩ (.int .i64 was.pg)).setCell ⟨bv1, 7, none⟩ (.int .i64 was.since)) = wz1 at *
        refine wpAnyH_ready (rs := [13]) (by kernel_rfl) (by simp) (AllReadyH.cons rfl (fun KK hKK => ?_) (AllReadyH.nil))
        have isr := HI2.out
        have m0 := isr.cell 0
        have z0 := isr.frozen 0
        have m1 := isr.cell 1
        have z1 := isr.frozen 1
        have m2 := isr.cell 2
        have z2 := isr.frozen 2
        have m3 := isr.cell 3
        have z3 := isr.frozen 3
        have m4 := isr.cell 4
        have z4 := isr.frozen 4
        have m5 := isr.cell 5
        have z5 := isr.frozen 5
        have m6 := isr.cell 6
        have z6 := isr.frozen 6
        have m7 := isr.cell 7
        have z7 := isr.frozen 7
        simp only [List.getElem?_toArray, List.getElem?_cons_zero, List.getElem?_cons_succ] at m0 m1 m2 m3 m4 m5 m6 m7
        go_simp
        have isR := ((((((((isr.set 0 (.int .i64 nu.ask)).set 1 (.int .i64 nu.dn)).set 2 (.int .i64 nu.gr)).set 3 (.int .i64 nu.told)).set 4 (.int .i64 nu.pa)).set 5 (.int .i64 nu.pd)).set 6 (.int .i64 nu.pg)).set 7 (.int .i64 nu.since))
        have fR := (((((((((Fr.refl (fun q => q = bv2) (wz1)).setCell (p := ⟨bv2, 0, none⟩) (.inl rfl) (.int .i64 nu.ask)).setCell (p := ⟨bv2, 1, none⟩) (.inl rfl) (.int .i64 nu.dn)).setCell (p := ⟨bv2, 2, none⟩) (.inl rfl) (.int .i64 nu.gr)).setCell (p := ⟨bv2, 3, none⟩) (.inl rfl) (.int .i64 nu.told)).setCell (p := ⟨bv2, 4, none⟩) (.inl rfl) (.int .i64 nu.pa)).setCell (p := ⟨bv2, 5, none⟩) (.inl rfl) (.int .i64 nu.pd)).setCell (p := ⟨bv2, 6, none⟩) (.inl rfl) (.int .i64 nu.pg)).setCell (p := ⟨bv2, 7, none⟩) (.inl rfl) (.int .i64 nu.since))
        simp only [List.setIfInBounds_toArray, List.set_cons_zero, List.set_cons_succ] at isR
        have HI2 := Lib.hid isR
        have HI1 := Lib.hid (HI1.out.fr fR (fun e => HNE.out e.symm))
        have HG := Lib.hid (((((((((HG.out.setCell (p := ⟨bv2, 0, none⟩) (.inr HG2.out) (.int .i64 nu.ask)).setCell (p := ⟨bv2, 1, none⟩) (.inr HG2.out) (.int .i64 nu.dn)).setCell (p := ⟨bv2, 2, none⟩) (.inr HG2.out) (.int .i64 nu.gr)).setCell (p := ⟨bv2, 3, none⟩) (.inr HG2.out) (.int .i64 nu.told)).setCell (p := ⟨bv2, 4, none⟩) (.inr HG2.out) (.int .i64 nu.pa)).setCell (p := ⟨bv2, 5, none⟩) (.inr HG2.out) (.int .i64 nu.pd)).setCell (p := ⟨bv2, 6, none⟩) (.inr HG2.out) (.int .i64 nu.pg)).setCell (p := ⟨bv2, 7, none⟩) (.inr HG2.out) (.int .i64 nu.since)))
        clear isR fR isr
        (with_reducible refine hKK.out _ _ (HS.out _ HG.out) (fun hHeld => ?_))
        clear hKK KK
        clear m0 z0 m1 z1 m2 z2 m3 z3 m4 z4 m5 z5 m6 z6 m7 z7
        generalize (((((((((wz1).setCell ⟨bv2, 0, none⟩ (.int .i64 nu.ask)).setCell ⟨bv2, 1, none⟩ (.int .i64 nu.dn)).setCell ⟨bv2, 2, none⟩ (.int .i64 nu.gr)).setCell ⟨bv2, 3, none⟩ (.int .i64 nu.told)).setCell ⟨bv2, 4, none⟩ (.int .i64 nu.pa)).setCell ⟨bv2, 5, none⟩ (.int .i64 nu.pd)).setCell ⟨bv2, 6, none⟩ (.int .i64 nu.pg)).setCell ⟨bv2, 7, none⟩ (.int .i64 nu.since)) = wz2 at *
        refine wpAnyH_done (by kernel_rfl) ?_ _
        go_wp2_with fail
        go_meet
        case rel => exact ⟨_, _, rfl, rfl, HI1.out, HI2.out, HG.out⟩
    case rest =>
      obtain ⟨b1, b2, rfl, rfl, ib1, ib2, fx⟩ := hcut
      have HFX := Lib.hid fx
      have HI1 := Lib.hid ib1
      have HI2 := Lib.hid ib2
      clear fx ib1 ib2
      obtain ⟨hk4, hk0, hk6, hn4c, hn0c, hx4, a0, a1, a2, a3, a4, a5, a6, a7, c0, c1, c2, c3, c4, c5, c6, c7, d0, d1, f0, f1, f2⟩ := HSC.out _ HFX.out
      clear a0 a1 a2 a3 a4 a5 a6 a7 c0 c1 c2 c3 c4 c5 c6 c7 hk4 hn4c HS i1 i2
      have b0 : wc.cell? ⟨b1, 0, none⟩ = some (.int .i64 was.ask) := HI1.out.cell 0
      have b1c : wc.cell? ⟨b1, 1, none⟩ = some (.int .i64 was.dn) := HI1.out.cell 1
      have b2c : wc.cell? ⟨b1, 2, none⟩ = some (.int .i64 was.gr) := HI1.out.cell 2
      have b3 : wc.cell? ⟨b1, 3, none⟩ = some (.int .i64 was.told) := HI1.out.cell 3
      have b5 : wc.cell? ⟨b1, 5, none⟩ = some (.int .i64 was.pd) := HI1.out.cell 5
      have b7 : wc.cell? ⟨b1, 7, none⟩ = some (.int .i64 was.since) := HI1.out.cell 7
      have q2 : wc.cell? ⟨b2, 2, none⟩ = some (.int .i64 nu.gr) := HI2.out.cell 2
      have q3 : wc.cell? ⟨b2, 3, none⟩ = some (.int .i64 nu.told) := HI2.out.cell 3
      have i9 : wrap64 ((n : Int) + 1) = ((n + 1 : Nat) : Int) := by rw [IntWalk.wrap64_in _ ⟨by have := HN.out; omega, by have := HN.out; omega⟩]; omega
      have s1 : (0 : Int) ≤ (s : Int) := by omega
      have s2 := HO5.out
      have s3 := HV5.out
      obtain ⟨T1, T2, T3⟩ := HR.out
      by_cases ht : nu.told = was.told
      · rw [ht] at q3
        have h0 : decide (was.told = was.told) = true := decide_eq_true rfl
        by_cases hA : o = -2
        · subst hA
          by_cases hB : p = -2
          · subst hB
            clear T1 T2 T3
            go_wp2_with fail
            go_roundg (4 - (n + 1))
            case measure => have := HLT.out; omega
            case rel => exact ⟨n + 1, by omega, by have := HLT.out; omega, rfl, by first | rw [i9] | rfl, fr_nil HFA.out HFX.out⟩
          · obtain ⟨rfl, hge, hsi, hok, hval, hst⟩ := T2 rfl hB
            rw [hok] at f2
            rw [hval] at f0
            have g1 : decide (was.pd < was.gr) = false := decide_eq_false (by omega)
            have g2 : decide (was.since = 0) = false := decide_eq_false hsi
            have g3 : (was.since == 0) = false := by simpa using hsi
            have g4 : decide (x.stamp < was.since) = false := decide_eq_false (by omega)
            have HZ := Lib.hid (Is.new wc 51 #[.int .i64 0, .int .i64 x.stamp, .bool true])
            have HFZ := Lib.hid ((Fr.refl (fun _ => False) wc).alloc (.cells #[.int .i64 0, .int .i64 x.stamp, .bool true] 51))
            clear T1 T2 T3 hge hsi hok hval hst hB
            go_upto_region 16 with fail
            clear b0 b1c b2c b3 b5 b7 q2 q3 hk0 hk6 hn0c hx4 d0 d1 f0 f1 f2
            generalize wc.alloc _ = wz at *
            obtain ⟨-, hk0, -, -, hn0c, -, -, -, -, -, -, -, -, -, -, -, -, -, -, -, -, -, d0, d1, -⟩ := HSC.out _ (fr_nil HFX.out HFZ.out)
            have b2c : wz.cell? ⟨b1, 2, none⟩ = some (.int .i64 was.gr) := (HI1.out.fr HFZ.out id).cell 2
            have b5 : wz.cell? ⟨b1, 5, none⟩ = some (.int .i64 was.pd) := (HI1.out.fr HFZ.out id).cell 5
            have b7 : wz.cell? ⟨b1, 7, none⟩ = some (.int .i64 was.since) := (HI1.out.fr HFZ.out id).cell 7
            have z0 : wz.cell? ⟨wc.heap.size, 0, none⟩ = some (.int .i64 0) := HZ.out.cell 0
            have z1 : wz.cell? ⟨wc.heap.size, 1, none⟩ = some (.int .i64 x.stamp) := HZ.out.cell 1
            have z2 : wz.cell? ⟨wc.heap.size, 2, none⟩ = some (.bool true) := HZ.out.cell 2
            go_wp2_with fail
            go_roundg (4 - (n + 1))
            case measure => have := HLT.out; omega
            case rel => exact ⟨n + 1, by omega, by have := HLT.out; omega, rfl, by first | rw [i9] | rfl, fr_nil (fr_nil HFA.out HFX.out) HFZ.out⟩
        · have g1 : decide (o = -2) = false := decide_eq_false hA
          have g2 : (o == -2) = false := by simpa using hA
          have g3 : (o != -2) = true := by simpa using hA
          by_cases hB : p = -2
          · subst hB
            obtain ⟨rfl, had, hgr⟩ := T3 hA rfl
            have g4 : decide (nu.gr ≤ was.gr) = false := decide_eq_false (by omega)
            rw [had] at b0
            clear T1 T2 T3 hA had hgr
            go_wp2_with fail
            go_roundg (4 - (n + 1))
            case measure => have := HLT.out; omega
            case rel => exact ⟨n + 1, by omega, by have := HLT.out; omega, rfl, by first | rw [i9] | rfl, fr_nil HFA.out HFX.out⟩
          · have g4 : decide (p = -2) = false := decide_eq_false hB
            have g5 : (p == -2) = false := by simpa using hB
            have g6 : (p != -2) = true := by simpa using hB
            clear T1 T2 T3 hA hB
            go_wp2_with fail
            go_roundg (4 - (n + 1))
            case measure => have := HLT.out; omega
            case rel => exact ⟨n + 1, by omega, by have := HLT.out; omega, rfl, by first | rw [i9] | rfl, fr_nil HFA.out HFX.out⟩
      · obtain ⟨hdy, hg⟩ := T1 ht
        have hdy : K.dirty = false := by simpa using hdy
        rw [hdy] at hk6
        rw [hg] at q3 ht
        have h0 : decide (was.gr = was.told) = false := decide_eq_false ht
        have h1 : (was.gr == was.told) = false := by simpa using ht
        have h2 : (was.gr != was.told) = true := by simpa using ht
        clear ht hdy hg
        by_cases hA : o = -2
        · subst hA
          by_cases hB : p = -2
          · subst hB
            clear T1 T2 T3
            go_wp2_with fail
            go_roundg (4 - (n + 1))
            case measure => have := HLT.out; omega
            case rel => exact ⟨n + 1, by omega, by have := HLT.out; omega, rfl, by first | rw [i9] | rfl, fr_nil HFA.out HFX.out⟩
          · obtain ⟨rfl, hge, hsi, hok, hval, hst⟩ := T2 rfl hB
            rw [hok] at f2
            rw [hval] at f0
            have g1 : decide (was.pd < was.gr) = false := decide_eq_false (by omega)
            have g2 : decide (was.since = 0) = false := decide_eq_false hsi
            have g3 : (was.since == 0) = false := by simpa using hsi
            have g4 : decide (x.stamp < was.since) = false := decide_eq_false (by omega)
            have HZ := Lib.hid (Is.new wc 51 #[.int .i64 0, .int .i64 x.stamp, .bool true])
            have HFZ := Lib.hid ((Fr.refl (fun _ => False) wc).alloc (.cells #[.int .i64 0, .int .i64 x.stamp, .bool true] 51))
            clear T1 T2 T3 hge hsi hok hval hst hB
            go_upto_region 16 with fail
            clear b0 b1c b2c b3 b5 b7 q2 q3 hk0 hk6 hn0c hx4 d0 d1 f0 f1 f2
            generalize wc.alloc _ = wz at *
            obtain ⟨-, hk0, -, -, hn0c, -, -, -, -, -, -, -, -, -, -, -, -, -, -, -, -, -, d0, d1, -⟩ := HSC.out _ (fr_nil HFX.out HFZ.out)
            have b2c : wz.cell? ⟨b1, 2, none⟩ = some (.int .i64 was.gr) := (HI1.out.fr HFZ.out id).cell 2
            have b5 : wz.cell? ⟨b1, 5, none⟩ = some (.int .i64 was.pd) := (HI1.out.fr HFZ.out id).cell 5
            have b7 : wz.cell? ⟨b1, 7, none⟩ = some (.int .i64 was.since) := (HI1.out.fr HFZ.out id).cell 7
            have z0 : wz.cell? ⟨wc.heap.size, 0, none⟩ = some (.int .i64 0) := HZ.out.cell 0
            have z1 : wz.cell? ⟨wc.heap.size, 1, none⟩ = some (.int .i64 x.stamp) := HZ.out.cell 1
            have z2 : wz.cell? ⟨wc.heap.size, 2, none⟩ = some (.bool true) := HZ.out.cell 2
            go_wp2_with fail
            go_roundg (4 - (n + 1))
            case measure => have := HLT.out; omega
            case rel => exact ⟨n + 1, by omega, by have := HLT.out; omega, rfl, by first | rw [i9] | rfl, fr_nil (fr_nil HFA.out HFX.out) HFZ.out⟩
        · have g1 : decide (o = -2) = false := decide_eq_false hA
          have g2 : (o == -2) = false := by simpa using hA
          have g3 : (o != -2) = true := by simpa using hA
          by_cases hB : p = -2
          · subst hB
            obtain ⟨rfl, had, hgr⟩ := T3 hA rfl
            have g4 : decide (nu.gr ≤ was.gr) = false := decide_eq_false (by omega)
            rw [had] at b0
            clear T1 T2 T3 hA had hgr
            go_wp2_with fail
            go_roundg (4 - (n + 1))
            case measure => have := HLT.out; omega
            case rel => exact ⟨n + 1, by omega, by have := HLT.out; omega, rfl, by first | rw [i9] | rfl, fr_nil HFA.out HFX.out⟩
          · have g4 : decide (p = -2) = false := decide_eq_false hB
            have g5 : (p == -2) = false := by simpa using hB
            have g6 : (p != -2) = true := by simpa using hB
            clear T1 T2 T3 hA hB
            go_wp2_with fail
            go_roundg (4 - (n + 1))
            case measure => have := HLT.out; omega
            case rel => exact ⟨n + 1, by omega, by have := HLT.out; omega, rfl, by first | rw [i9] | rfl, fr_nil HFA.out HFX.out⟩
end Go.Proofs.Ytnnacdkijeoeoaa.Bk
/- BlockTells (P15.2): a grant is told only if it was recorded ahead; a section that was granted goes free only when the neighbour is done with just this grant and the section was seen clear since. For every configuration, state, telegram, view and time; no condition. -/
namespace Go.Proofs.Ytnnacdkijeoeoaa.blockTells
open Go.ChangeShapes Go.WideShapes Go.ChangeAt Go.RowKit
open Go.ChangeMaps (open_string shut_string)

set_option maxRecDepth 100000 in
theorem lifted (os : Os) (started : os.Started) (H : Type) (enc : TypeId × Value → H) :
    ReturnsInHanded {} Try.checked os 3 .any (Rows.blockTellsSpec.pre6 enc Try.prog Try.f3 Rows.blockTellsRow.domain false) (Rows.blockTellsSpec.post enc Try.prog Try.f3 false true false false) := by
  refine returnsInHanded_of_change_sized (C := Try.checked) Try.own started (by kernel_rfl) Try.func3
    (ChangeSpec.witness6 (enc := enc) (C := Try.checked) false ⟨#[], #[.agg #[.slice none 0 0, .slice none 0 0, .slice none 0 0, .slice none 0 0, .slice none 0 0, .int .i64 0, .int .i64 0, .int .i64 0, .int .i64 0], .agg #[.slice none 0 0, .slice none 0 0, .slice none 0 0, .slice none 0 0, .slice none 0 0, .slice none 0 0, .bool false], .agg #[.int .i64 0, .int .i64 0, .int .i64 0, .int .i64 0, .slice none 0 0, .slice none 0 0, .slice none 0 0, .slice none 0 0, .int .i64 0]], []⟩ 8 (by kernel_rfl) (by kernel_rfl) (by kernel_rfl) (by kernel_rfl)) ?_
  intro W base args ds gs before hval0 hW hcnd0 hsz0 _
  have hval : ∀ (j : Nat) t v, Try.f3.params[j]? = some t → args[j]? = some v → Value.okWide Try.prog W .any base t v := hval0
  have hW' := hW
  obtain ⟨p, q, hA0, hV, rfl, hfz, hnd⟩ := hW
  have hA : DataW.TrodAll enc Try.prog W 0 (fun _ => true) true Try.f3.params.toList args.toList ds p := hA0
  have hsz : (DataW.weightsEach Try.prog (Try.f3.params.toList ++ Rows.blockTellsSpec.plain.varTypes Try.prog) (ds ++ gs)).all (· ≤ reachBytes) = true := hsz0
  rw [Try.params3] at hA hval hsz
  obtain ⟨v0, v1, v2, d0, d1, d2, p0, p1, p2, rfl, rfl, rfl, h0, h1, h2⟩ := trodAll_three hA
  obtain ⟨rfl, rfl⟩ := trodVars_none hV
  obtain ⟨x0, rfl, i0⟩ := open_conf (hval 0 30 v0 rfl rfl) h0
  obtain ⟨x1, rfl, i1⟩ := Nk.open_core (hval 1 35 v1 rfl rfl) h1
  obtain ⟨m2, y2, x2, n2, rfl, i2⟩ := Bk.open_cycle15 (hval 2 42 v2 rfl rfl) h2
  have z0 := conf_ok i0 hsz (j := 0) rfl rfl
  have z1 := Nk.core_ok i1 hsz (j := 1) rfl rfl
  refine (Lk.toB (Bk.tells_walk z0 z1 i2 m2 y2 n2)).mono fun e W' ⟨he, hb⟩ => ?_
  subst he
  exact law_post hW' rfl (by kernel_rfl) (by rw [Try.params3]; exact of_decide_eq_true (by kernel_rfl)) rfl rfl rfl hb

theorem proved : Rows.BlockTellsSaid :=
  OpenClaim.holds_of_wide 3 Try.f3 rfl rfl rfl rfl rfl rfl rfl ⟨rfl, rfl, rfl, rfl, rfl⟩ rfl rfl rfl rfl rfl (by kernel_rfl) Try.func3 (by kernel_rfl)
    (of_decide_eq_true (by kernel_rfl)) (by unfold Func.isWrapper; first | (rw [if_pos (by decide +kernel)]; kernel_rfl) | (rw [if_neg (by decide +kernel)]; exact ⟨rfl, rfl⟩))
    (fun os started H enc _ => lifted os started H enc)
end Go.Proofs.Ytnnacdkijeoeoaa.blockTells

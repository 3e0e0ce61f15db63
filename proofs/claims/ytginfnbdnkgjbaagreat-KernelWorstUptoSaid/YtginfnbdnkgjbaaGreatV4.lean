import Derived.Deep.RegionHeld3
import Derived.Deep.LoopGhost
import Derived.BigQuiet
import Derived.Deep.CutRange
import Derived.Test.YtginfnbdnkgjbaaGreatLp
import Derived.Test.YtginfnbdnkgjbaaGreatMk
import Derived.Deep.QuietTactic
import Derived.Test.YtginfnbdnkgjbaaGreatV0
import Derived.Test.YtginfnbdnkgjbaaGreatKa
import Derived.Test.YtginfnbdnkgjbaaGreatKb
import Derived.Test.YtginfnbdnkgjbaaGreatKx
/- How views lie in memory; what is seen of the elements (the program's eye). -/
namespace Go.Proofs.YtginfnbdnkgjbaaGreat.Nk
open Go.RowKit Lk

/-- a look -/
structure Lo where
  val : Int
  stamp : Int
  ok : Bool
deriving DecidableEq
instance : Inhabited Lo := ⟨⟨0, 0, false⟩⟩
def cLo (l : Lo) : List Value := [.int .i64 l.val, .int .i64 l.stamp, .bool l.ok]
theorem cLo_len (l : Lo) : (cLo l).length = 3 := rfl
theorem rd_lo {w : World} {A : Option Addr} {l : List Lo} (h : Rd w A (l.flatMap cLo)) {j : Nat} (hj : j < l.length) : ∃ g o, A = some ⟨g, o, none⟩ ∧ w.cell? ⟨g, o + j * 3, none⟩ = some (.int .i64 l[j].val) ∧ w.cell? ⟨g, o + j * 3 + 1, none⟩ = some (.int .i64 l[j].stamp) ∧ w.cell? ⟨g, o + j * 3 + 2, none⟩ = some (.bool l[j].ok) := by
  obtain ⟨b, o, hA, _, hc⟩ := rd_flat cLo cLo_len h hj (by decide)
  exact ⟨b, o, hA, hc 0 _ (by decide) rfl, hc 1 _ (by decide) rfl, hc 2 _ (by decide) rfl⟩
/-- a view, as plain data; with its lists' addresses -/
structure Vp where
  occ : List Lo
  pos : List Lo
  shut : List Lo
  lamp : List Lo
structure Vm where
  A1 : Option Addr
  c1 : Nat
  occ : List Lo
  A2 : Option Addr
  c2 : Nat
  pos : List Lo
  A3 : Option Addr
  c3 : Nat
  shut : List Lo
  A4 : Option Addr
  c4 : Nat
  lamp : List Lo
def Vm.vp (V : Vm) : Vp := ⟨V.occ, V.pos, V.shut, V.lamp⟩
def Vm.arr (V : Vm) : Array Value := #[.slice V.A1 V.occ.length V.c1, .slice V.A2 V.pos.length V.c2, .slice V.A3 V.shut.length V.c3, .slice V.A4 V.lamp.length V.c4]
def Vm.val (V : Vm) : Value := .agg V.arr
structure Vm.Ok (w : World) (V : Vm) : Prop where
  occ : Rd w V.A1 (V.occ.flatMap cLo)
  pos : Rd w V.A2 (V.pos.flatMap cLo)
  shut : Rd w V.A3 (V.shut.flatMap cLo)
  lamp : Rd w V.A4 (V.lamp.flatMap cLo)
theorem Vm.Ok.fr {w w1 : World} {V : Vm} (h : V.Ok w) (f : Fr (fun _ => False) w w1) : V.Ok w1 :=
  ⟨h.occ.fr f fun _ _ => id, h.pos.fr f fun _ _ => id, h.shut.fr f fun _ _ => id, h.lamp.fr f fun _ _ => id⟩
def eyeArr (V : Vm) (age : Int) : Array Value := #[.slice V.A1 V.occ.length V.c1, .slice V.A2 V.pos.length V.c2, .slice V.A3 V.shut.length V.c3, .slice V.A4 V.lamp.length V.c4, .int .i64 age]
theorem five {w : World} {b : Nat} {v0 v1 v2 v3 v4 : Value} {t : TypeId} (h : Is w b t #[v0, v1, v2, v3, v4]) : w.cell? ⟨b, 0, none⟩ = some v0 ∧ w.cell? ⟨b, 1, none⟩ = some v1 ∧ w.cell? ⟨b, 2, none⟩ = some v2 ∧ w.cell? ⟨b, 3, none⟩ = some v3 ∧ w.cell? ⟨b, 4, none⟩ = some v4 :=
  ⟨h.cell 0, h.cell 1, h.cell 2, h.cell 3, h.cell 4⟩

/-! ### Plain: what is seen -/
def loAt (l : List Lo) (s : Int) : Lo := l.getD s.toNat default
theorem loAt_nat {l : List Lo} {j : Nat} (hj : j < l.length) : loAt l j = l[j] := by
  unfold loAt
  rw [Int.toNat_natCast, List.getD_eq_getElem?_getD, List.getElem?_eq_getElem hj]; rfl
def clrB (occ : List Lo) (s : Int) : Bool := (loAt occ s).ok && decide ((loAt occ s).val = 0)
/-- clear, and so behind a cycle -/
def clbB (occ : List Lo) (s t : Int) : Bool := clrB occ s && decide (t < (loAt occ s).stamp)
def litB (lamp : List Lo) (s : Int) : Bool := (loAt lamp s).ok && decide ((loAt lamp s).val = 1)
/-- is the mover proved by the look? -/
def prB (l : List Lo) (s : Int) (m : Mo) (age : Int) : Bool := Mv.pv m.cmd m.oth (loAt l s).val (loAt l s).stamp (loAt l s).ok age

set_option maxRecDepth 100000 in
set_option maxHeartbeats 2000000 in
theorem clear_any {V : Vm} {age : Int} {w : World} (hV : V.Ok w) {A : Option Addr} {c : Nat} (l : List Int) (hA : Rd w A (l.map (Value.int .i64))) (hl : l.length ≤ 9223372036854775807) (hs : ∀ s ∈ l, 0 ≤ s ∧ s < V.occ.length) :
    Calls Tryz.prog 166 #[.agg (eyeArr V age), .slice A l.length c] w fun e w' => e = .returned (.bool (l.all (clrB V.occ))) ∧ Fr (fun _ => False) w w' := by
  generalize hT : l.all (clrB V.occ) = T
  have HT := Lib.hid hT
  have HF0 := Lib.hid ((Fr.refl (fun _ => False) w).alloc (.cells (eyeArr V age) 138))
  have HI := Lib.hid (Is.new w 138 (eyeArr V age))
  have HV := Lib.hid hV
  have HA := Lib.hid hA
  clear hT hV hA
  unfold eyeArr at *
  go_enter Tryz.func166, Tryz.ntmps166
  go_upto_region 1 with fail
  generalize w.alloc _ = w0 at *
  generalize hz : w.heap.size = z at *
  clear hz
  go_wp2_with fail
  go_loopg [6, 7, 10] l.length (fun gi _ _ v10 wr => ∃ (k : Nat), k ≤ l.length ∧ gi = l.length - k ∧ v10 = .int .i64 (k : Nat) ∧ (l.drop k).all (clrB V.occ) = T ∧ Fr (fun _ => False) w0 wr)
  case atStart => exact ⟨0, Nat.zero_le _, rfl, rfl, HT.out, Fr.refl _ _⟩
  case round =>
    clear HT
    obtain ⟨k, hk, rfl, rfl, hT, f⟩ := hrel
    by_cases hlt : k < l.length
    · obtain ⟨g, p, hA1, q0⟩ := rd_int ((HA.out.fr HF0.out fun _ _ => id).fr f fun _ _ => id) hlt
      have hx := hs l[k] (List.getElem_mem hlt)
      rw [List.drop_eq_getElem_cons hlt, List.all_cons] at hT
      generalize hR : (l.drop (k + 1)).all (clrB V.occ) = R at hT
      have HR := Lib.hid hR
      clear hR
      generalize l[k] = x at *
      obtain ⟨j, rfl⟩ := Int.eq_ofNat_of_zero_le hx.1
      have hj : j < V.occ.length := by omega
      obtain ⟨g1, o1, hB, d0, d1, d2⟩ := rd_lo ((HV.out.fr HF0.out).fr f).occ hj
      have ce := (HI.out.fr f id).cell 0
      simp only [List.getElem?_toArray, List.getElem?_cons_zero] at ce
      rw [hB] at ce
      unfold clrB at hT
      rw [loAt_nat hj] at hT
      have i1 : (0 : Int) ≤ (k : Int) := by omega
      have i2 : (k : Int) < (l.length : Int) := by omega
      have i3 : (0 : Int) ≤ (j : Int) := by omega
      have i4 : (j : Int) < (V.occ.length : Int) := by omega
      have HK := Lib.hid hlt
      have HFW := Lib.hid f
      rw [hA1]
      have HA1 := Lib.hid hA1
      generalize V.occ[j] = y at *
      clear hA1 hB hs hx hlt hk f hj
      obtain ⟨v, s, b⟩ := y
      dsimp only at d0 d1 d2 hT
      cases b
      · rw [Bool.false_and, Bool.false_and] at hT
        subst hT
        go_wp2_with fail
        go_ret
        exact ⟨rfl, (fr_nil HF0.out HFW.out).alloc _⟩
      · rw [Bool.true_and] at hT
        by_cases hv : v = 0
        · subst hv
          rw [decide_eq_true rfl, Bool.true_and] at hT
          have HT := Lib.hid hT
          clear hT
          go_wp2_with fail
          rw [← HA1.out]
          go_roundg (l.length - (k + 1))
          case measure => have := HK.out; omega
          case rel => exact ⟨k + 1, by have := HK.out; omega, rfl, by go_num, HR.out.trans HT.out, HFW.out.alloc _⟩
        · rw [decide_eq_false hv, Bool.false_and] at hT
          subst hT
          have e1 : (v == 0) = false := by simpa using hv
          have e2 : (v != 0) = true := by simpa using hv
          clear hv
          go_wp2_with fail
          go_ret
          exact ⟨rfl, (fr_nil HF0.out HFW.out).alloc _⟩
    · rw [List.drop_eq_nil_of_le (by omega)] at hT
      have hT : true = T := hT
      subst hT
      go_wp2_with fail
      go_ret
      exact ⟨rfl, fr_nil HF0.out f⟩
end Go.Proofs.YtginfnbdnkgjbaaGreat.Nk
/- The calls of the program's eye; does a view fit a configuration. -/
namespace Go.Proofs.YtginfnbdnkgjbaaGreat.Nk
open Go.RowKit Lk

set_option maxRecDepth 100000 in
set_option maxHeartbeats 1000000 in
theorem lit_any {V : Vm} {age : Int} {w : World} (hV : V.Ok w) {j : Nat} (hj : j < V.lamp.length) :
    Calls Tryz.prog 171 #[.agg (eyeArr V age), .int .i64 (j : Int)] w fun e w' => e = .returned (.bool (litB V.lamp j)) ∧ Fr (fun _ => False) w w' := by
  have HF0 := Lib.hid ((Fr.refl (fun _ => False) w).alloc (.cells (eyeArr V age) 138))
  have HI := Lib.hid (Is.new w 138 (eyeArr V age))
  have HV := Lib.hid hV
  unfold litB
  rw [loAt_nat hj]
  generalize hy : V.lamp[j] = y
  have HY := Lib.hid hy
  clear hV hy
  obtain ⟨v, s, b⟩ := y
  dsimp only
  unfold eyeArr at *
  go_enter Tryz.func171, Tryz.ntmps171
  go_upto_region 1 with fail
  generalize w.alloc _ = w0 at *
  generalize hz : w.heap.size = z at *
  obtain ⟨g1, o1, hB, d0, d1, d2⟩ := rd_lo ((HV.out.fr HF0.out)).lamp hj
  have ce := HI.out.cell 3
  simp only [List.getElem?_toArray, List.getElem?_cons_succ, List.getElem?_cons_zero] at ce
  rw [hB] at ce
  have i3 : (0 : Int) ≤ (j : Int) := by omega
  have i4 : (j : Int) < (V.lamp.length : Int) := by omega
  rw [HY.out] at d0 d1 d2
  dsimp only at d0 d1 d2
  clear hz hj hB HY
  cases b
  · go_wp2_with fail
    go_ret
    exact ⟨rfl, HF0.out.alloc _⟩
  · generalize hd : (v == 1) = d
    have HD := Lib.hid hd
    go_wp2_with fail
    go_ret
    exact ⟨by rw [← HD.out]; rfl, HF0.out.alloc _⟩
set_option maxRecDepth 100000 in
set_option maxHeartbeats 1000000 in
theorem pointProved_any {V : Vm} {age : Int} {w : World} (hV : V.Ok w) {j : Nat} (hj : j < V.pos.length) (m : Mo) :
    Calls Tryz.prog 206 #[.agg (eyeArr V age), .int .i64 (j : Int), .agg #[.int .i64 m.cmd, .int .i64 m.oth]] w fun e w' => e = .returned (.bool (prB V.pos j m age)) ∧ Fr (fun _ => False) w w' := by
  have HF0 := Lib.hid (((Fr.refl (fun _ => False) w).alloc (.cells (eyeArr V age) 138)).alloc (.cells #[.int .i64 m.cmd, .int .i64 m.oth] 48))
  have HI := Lib.hid ((Is.new w 138 (eyeArr V age)).alloc (.cells #[.int .i64 m.cmd, .int .i64 m.oth] 48))
  have HM := Lib.hid (Is.new (w.alloc (.cells (eyeArr V age) 138)) 48 #[.int .i64 m.cmd, .int .i64 m.oth])
  rw [show (w.alloc (.cells (eyeArr V age) 138)).heap.size = w.heap.size + 1 by simp] at HM
  have HV := Lib.hid hV
  have KP := fun W => Mv.proven_any m.cmd m.oth (V.pos[j]).val (V.pos[j]).stamp (V.pos[j]).ok age W
  unfold prB
  rw [loAt_nat hj]
  generalize hy : V.pos[j] = y at *
  have HY := Lib.hid hy
  generalize Mv.pv m.cmd m.oth y.val y.stamp y.ok age = r at *
  clear hV hy
  unfold eyeArr at *
  go_enter Tryz.func206, Tryz.ntmps206
  go_upto_region 1 with fail
  generalize ((w.alloc _).alloc _) = w0 at *
  generalize hz : w.heap.size = z at *
  obtain ⟨g1, o1, hB, d0, d1, d2⟩ := rd_lo ((HV.out.fr HF0.out)).pos hj
  have ce := HI.out.cell 1
  have ca := HI.out.cell 4
  have cm0 := HM.out.cell 0
  have cm1 := HM.out.cell 1
  simp only [List.getElem?_toArray, List.getElem?_cons_succ, List.getElem?_cons_zero] at ce ca cm0 cm1
  rw [hB] at ce
  have i3 : (0 : Int) ≤ (j : Int) := by omega
  have i4 : (j : Int) < (V.pos.length : Int) := by omega
  rw [HY.out] at d0 d1 d2
  clear hz hj hB HY
  have ce := cell_fro ce
  have ca := cell_fro ca
  have cm0 := cell_fro cm0
  have cm1 := cell_fro cm1
  have d0 := cell_fro d0
  have d1 := cell_fro d1
  have d2 := cell_fro d2
  refine region_fro (by kernel_rfl) (by kernel_rfl) ?_
  repeat (go_big_quiet_step (first | (go_at_call 232; with_reducible exact call_fro (KP _))))
  refine wpQuiet_nil ?_
  rintro w3 ⟨⟨w9, f3⟩, hww⟩
  replace hww : w3 = w9 := hww
  subst hww
  go_wp2_with fail
  go_ret
  exact ⟨rfl, fr_nil HF0.out f3⟩
set_option maxRecDepth 100000 in
set_option maxHeartbeats 1000000 in
theorem crossingProved_any {V : Vm} {age : Int} {w : World} (hV : V.Ok w) {j : Nat} (hj : j < V.shut.length) (m : Mo) :
    Calls Tryz.prog 207 #[.agg (eyeArr V age), .int .i64 (j : Int), .agg #[.int .i64 m.cmd, .int .i64 m.oth]] w fun e w' => e = .returned (.bool (prB V.shut j m age)) ∧ Fr (fun _ => False) w w' := by
  have HF0 := Lib.hid (((Fr.refl (fun _ => False) w).alloc (.cells (eyeArr V age) 138)).alloc (.cells #[.int .i64 m.cmd, .int .i64 m.oth] 48))
  have HI := Lib.hid ((Is.new w 138 (eyeArr V age)).alloc (.cells #[.int .i64 m.cmd, .int .i64 m.oth] 48))
  have HM := Lib.hid (Is.new (w.alloc (.cells (eyeArr V age) 138)) 48 #[.int .i64 m.cmd, .int .i64 m.oth])
  rw [show (w.alloc (.cells (eyeArr V age) 138)).heap.size = w.heap.size + 1 by simp] at HM
  have HV := Lib.hid hV
  have KP := fun W => Mv.proven_any m.cmd m.oth (V.shut[j]).val (V.shut[j]).stamp (V.shut[j]).ok age W
  unfold prB
  rw [loAt_nat hj]
  generalize hy : V.shut[j] = y at *
  have HY := Lib.hid hy
  generalize Mv.pv m.cmd m.oth y.val y.stamp y.ok age = r at *
  clear hV hy
  unfold eyeArr at *
  go_enter Tryz.func207, Tryz.ntmps207
  go_upto_region 1 with fail
  generalize ((w.alloc _).alloc _) = w0 at *
  generalize hz : w.heap.size = z at *
  obtain ⟨g1, o1, hB, d0, d1, d2⟩ := rd_lo ((HV.out.fr HF0.out)).shut hj
  have ce := HI.out.cell 2
  have ca := HI.out.cell 4
  have cm0 := HM.out.cell 0
  have cm1 := HM.out.cell 1
  simp only [List.getElem?_toArray, List.getElem?_cons_succ, List.getElem?_cons_zero] at ce ca cm0 cm1
  rw [hB] at ce
  have i3 : (0 : Int) ≤ (j : Int) := by omega
  have i4 : (j : Int) < (V.shut.length : Int) := by omega
  rw [HY.out] at d0 d1 d2
  clear hz hj hB HY
  have ce := cell_fro ce
  have ca := cell_fro ca
  have cm0 := cell_fro cm0
  have cm1 := cell_fro cm1
  have d0 := cell_fro d0
  have d1 := cell_fro d1
  have d2 := cell_fro d2
  refine region_fro (by kernel_rfl) (by kernel_rfl) ?_
  repeat (go_big_quiet_step (first | (go_at_call 232; with_reducible exact call_fro (KP _))))
  refine wpQuiet_nil ?_
  rintro w3 ⟨⟨w9, f3⟩, hww⟩
  replace hww : w3 = w9 := hww
  subst hww
  go_wp2_with fail
  go_ret
  exact ⟨rfl, fr_nil HF0.out f3⟩
/-- is the section clear, and was it so behind the cycle? -/
theorem clear1 {occ : List Lo} {s : Int} : [s].all (clrB occ) = clrB occ s := by simp
set_option maxRecDepth 100000 in
set_option maxHeartbeats 1000000 in
theorem clearBehind_any {V : Vm} {age : Int} {w : World} (hV : V.Ok w) {j : Nat} (hj : j < V.occ.length) (t : Int) :
    Calls Tryz.prog 163 #[.agg (eyeArr V age), .int .i64 (j : Int), .int .i64 t] w fun e w' => e = .returned (.bool (clbB V.occ j t)) ∧ Fr (fun _ => False) w w' := by
  have HF0 := Lib.hid ((Fr.refl (fun _ => False) w).alloc (.cells (eyeArr V age) 138))
  have HI := Lib.hid (Is.new w 138 (eyeArr V age))
  have HV := Lib.hid hV
  have HJ := Lib.hid hj
  unfold clbB
  rw [loAt_nat hj]
  generalize hy : V.occ[j] = y
  have HY := Lib.hid hy
  generalize hb : clrB V.occ j = b
  have HB := Lib.hid hb
  clear hV hy hb
  unfold eyeArr at *
  go_enter Tryz.func163, Tryz.ntmps163
  go_upto_region 1 with fail
  generalize w.alloc _ = w0 at *
  generalize hz : w.heap.size = z at *
  clear hz
  have KC : Calls Tryz.prog 166 #[.agg #[.slice V.A1 V.occ.length V.c1, .slice V.A2 V.pos.length V.c2, .slice V.A3 V.shut.length V.c3, .slice V.A4 V.lamp.length V.c4, .int .i64 age], .slice (some ⟨w0.heap.size, 0, none⟩) 1 1] (w0.alloc (.cells #[.int .i64 (j : Int)] 3)) (fun e w' => e = .returned (.bool b) ∧ Fr (fun _ => False) (w0.alloc (.cells #[.int .i64 (j : Int)] 3)) w') := by
    have := clear_any (c := 1) (age := age) ((HV.out.fr HF0.out).fr ((Fr.refl (fun _ => False) w0).alloc (.cells #[.int .i64 (j : Int)] 3))) [(j : Int)] (rd_lit rfl [(j : Int)]) (by simp) (by intro s hs; rw [List.mem_singleton.1 hs]; have := HJ.out; omega)
    rw [clear1, HB.out] at this
    exact this
  obtain ⟨p0, p1, p2, p3, p4⟩ := five HI.out
  go_wp2_with fail
  refine KC.mono ?_
  rintro _ w3 ⟨rfl, f3⟩
  have FX := ((Fr.refl (fun _ => False) w0).alloc (.cells #[.int .i64 (j : Int)] 3)).trans f3 fun _ _ h => h
  have HFX := Lib.hid FX
  clear KC f3 p0 p1 p2 p3 p4
  obtain ⟨g1, o1, hB, d0, d1, d2⟩ := rd_lo ((HV.out.fr HF0.out).fr FX).occ HJ.out
  have ce := (HI.out.fr FX id).cell 0
  simp only [List.getElem?_toArray, List.getElem?_cons_zero] at ce
  rw [hB] at ce
  have i3 : (0 : Int) ≤ (j : Int) := by omega
  have i4 : (j : Int) < (V.occ.length : Int) := by omega
  rw [show V.occ[j]'HJ.out = y from HY.out] at d0 d1 d2
  clear hj hB FX HY HB
  cases b
  · go_wp2_with fail
    go_ret
    exact ⟨rfl, fr_nil HF0.out HFX.out⟩
  · generalize hd : decide (t < y.stamp) = d
    have HD := Lib.hid hd
    go_wp2_with fail
    go_ret
    exact ⟨by rw [HD.out]; rfl, fr_nil HF0.out HFX.out⟩
def seesB (c : Cf) (v : Vp) : Bool := decide (v.occ.length = c.secs.length) && (decide (v.pos.length = c.secs.length) && (decide (v.shut.length = c.crs.length) && decide (v.lamp.length = c.sigs.length)))
theorem nine0 {w : World} {b : Nat} {v0 v1 v2 v3 v4 v5 v6 v7 v8 : Value} {t : TypeId} (h : Is w b t #[v0, v1, v2, v3, v4, v5, v6, v7, v8]) : w.cell? ⟨b, 0, none⟩ = some v0 ∧ w.cell? ⟨b, 1, none⟩ = some v1 ∧ w.cell? ⟨b, 2, none⟩ = some v2 ∧ w.cell? ⟨b, 3, none⟩ = some v3 ∧ w.cell? ⟨b, 4, none⟩ = some v4 ∧ w.cell? ⟨b, 5, none⟩ = some v5 ∧ w.cell? ⟨b, 6, none⟩ = some v6 ∧ w.cell? ⟨b, 7, none⟩ = some v7 ∧ w.cell? ⟨b, 8, none⟩ = some v8 :=
  ⟨h.cell 0, h.cell 1, h.cell 2, h.cell 3, h.cell 4, h.cell 5, h.cell 6, h.cell 7, h.cell 8⟩
theorem four {w : World} {b : Nat} {v0 v1 v2 v3 : Value} {t : TypeId} (h : Is w b t #[v0, v1, v2, v3]) : w.cell? ⟨b, 0, none⟩ = some v0 ∧ w.cell? ⟨b, 1, none⟩ = some v1 ∧ w.cell? ⟨b, 2, none⟩ = some v2 ∧ w.cell? ⟨b, 3, none⟩ = some v3 :=
  ⟨h.cell 0, h.cell 1, h.cell 2, h.cell 3⟩
set_option maxRecDepth 100000 in
set_option maxHeartbeats 2000000 in
theorem sees_any (C : Cm) (V : Vm) (w : World) :
    Calls Tryz.prog 155 #[C.val, V.val] w fun e w' => e = .returned (.bool (seesB C.cf V.vp)) ∧ Fr (fun _ => False) w w' := by
  have HF0 := Lib.hid (((Fr.refl (fun _ => False) w).alloc (.cells C.arr 30)).alloc (.cells V.arr 83))
  unfold seesB
  show Calls _ _ _ _ fun e w' => e = .returned (.bool (decide (V.occ.length = C.l.length) && (decide (V.pos.length = C.l.length) && (decide (V.shut.length = C.cr.length) && decide (V.lamp.length = C.sg.length))))) ∧ _
  unfold Cm.val Vm.val Cm.arr Vm.arr at *
  by_cases h0 : V.occ.length = C.l.length
  rotate_left
  · have d0 : (((V.occ.length : Nat) : Int) == ((C.l.length : Nat) : Int)) = false := by rw [beq_eq_false_iff_ne]; omega
    rw [decide_eq_false h0]
    clear h0
    go_enter Tryz.func155, Tryz.ntmps155
    go_wp2_with fail
    go_ret
    exact ⟨by simp, HF0.out⟩
  have d0 : (((V.occ.length : Nat) : Int) == ((C.l.length : Nat) : Int)) = true := by rw [beq_iff_eq]; omega
  rw [decide_eq_true h0]
  clear h0
  by_cases h1 : V.pos.length = C.l.length
  rotate_left
  · have d1 : (((V.pos.length : Nat) : Int) == ((C.l.length : Nat) : Int)) = false := by rw [beq_eq_false_iff_ne]; omega
    rw [decide_eq_false h1]
    clear h1
    go_enter Tryz.func155, Tryz.ntmps155
    go_wp2_with fail
    go_ret
    exact ⟨by simp, HF0.out⟩
  have d1 : (((V.pos.length : Nat) : Int) == ((C.l.length : Nat) : Int)) = true := by rw [beq_iff_eq]; omega
  rw [decide_eq_true h1]
  clear h1
  by_cases h2 : V.shut.length = C.cr.length
  rotate_left
  · have d2 : (((V.shut.length : Nat) : Int) == ((C.cr.length : Nat) : Int)) = false := by rw [beq_eq_false_iff_ne]; omega
    rw [decide_eq_false h2]
    clear h2
    go_enter Tryz.func155, Tryz.ntmps155
    go_wp2_with fail
    go_ret
    exact ⟨by simp, HF0.out⟩
  have d2 : (((V.shut.length : Nat) : Int) == ((C.cr.length : Nat) : Int)) = true := by rw [beq_iff_eq]; omega
  rw [decide_eq_true h2]
  clear h2
  by_cases h3 : V.lamp.length = C.sg.length
  rotate_left
  · have d3 : (((V.lamp.length : Nat) : Int) == ((C.sg.length : Nat) : Int)) = false := by rw [beq_eq_false_iff_ne]; omega
    rw [decide_eq_false h3]
    clear h3
    go_enter Tryz.func155, Tryz.ntmps155
    go_wp2_with fail
    go_ret
    exact ⟨by simp, HF0.out⟩
  have d3 : (((V.lamp.length : Nat) : Int) == ((C.sg.length : Nat) : Int)) = true := by rw [beq_iff_eq]; omega
  rw [decide_eq_true h3]
  clear h3
  go_enter Tryz.func155, Tryz.ntmps155
  go_wp2_with fail
  go_ret
  exact ⟨rfl, HF0.out⟩
set_option maxRecDepth 100000 in
set_option maxHeartbeats 2000000 in
theorem kfits_any (C : Cm) (K : Km) (V : Vm) (w : World) (hC : C.Ok w) (hK : K.Ok w) :
    Calls Tryz.prog 94 #[C.val, K.val, V.val] w fun e w' => e = .returned (.bool (fitsB C.cf K.kp && seesB C.cf V.vp)) ∧ Fr (fun _ => False) w w' := by
  have KF := fun W (f : Fr (fun _ => False) w W) => fits_any C K W (hC.fr f) (hK.fr f)
  have KS := fun W => sees_any C V W
  have HF0 := Lib.hid ((((Fr.refl (fun _ => False) w).alloc (.cells C.arr 30)).alloc (.cells K.arr 35)).alloc (.cells V.arr 83))
  have HIC := Lib.hid (((Is.new w 30 C.arr).alloc (.cells K.arr 35)).alloc (.cells V.arr 83))
  have HIK := Lib.hid ((Is.new (w.alloc (.cells C.arr 30)) 35 K.arr).alloc (.cells V.arr 83))
  have HIV := Lib.hid (Is.new ((w.alloc (.cells C.arr 30)).alloc (.cells K.arr 35)) 83 V.arr)
  rw [show (w.alloc (.cells C.arr 30)).heap.size = w.heap.size + 1 by simp] at HIK
  rw [show ((w.alloc (.cells C.arr 30)).alloc (.cells K.arr 35)).heap.size = w.heap.size + 1 + 1 by simp] at HIV
  clear hC hK
  generalize fitsB C.cf K.kp = b1 at *
  generalize seesB C.cf V.vp = b2 at *
  unfold Cm.val Vm.val Km.val Cm.arr Vm.arr Km.arr at *
  go_enter Tryz.func94, Tryz.ntmps94
  go_upto_region 1 with fail
  generalize (((w.alloc _).alloc _).alloc _) = w0 at *
  generalize hz : w.heap.size = z at *
  clear hz
  obtain ⟨p0, p1, p2, p3, p4, p5, p6, p7, p8⟩ := nine0 HIC.out
  obtain ⟨k0, k1, k2, k3, k4, k5, k6⟩ := core_cells (K := K) HIK.out
  go_wp2_with fail
  refine (KF _ HF0.out).mono ?_
  rintro _ w1 ⟨rfl, f1⟩
  have HF := Lib.hid (fr_nil HF0.out f1)
  clear KF p0 p1 p2 p3 p4 p5 p6 p7 p8 k0 k1 k2 k3 k4 k5 k6
  cases b1
  · clear KS
    go_wp2_with fail
    go_ret
    exact ⟨rfl, HF.out⟩
  · obtain ⟨p0, p1, p2, p3, p4, p5, p6, p7, p8⟩ := nine0 (HIC.out.fr f1 id)
    obtain ⟨v0, v1, v2, v3⟩ := four (HIV.out.fr f1 id)
    clear f1
    go_wp2_with fail
    refine (KS _).mono ?_
    rintro _ w2 ⟨rfl, f2⟩
    clear KS p0 p1 p2 p3 p4 p5 p6 p7 p8 v0 v1 v2 v3
    go_wp2_with fail
    go_ret
    exact ⟨rfl, fr_nil HF.out f2⟩
end Go.Proofs.YtginfnbdnkgjbaaGreat.Nk
/- Plain: a cycle, as the program does it: what each route, crossing and reset comes to; what the signals show. -/
namespace Go.Proofs.YtginfnbdnkgjbaaGreat.Nk
open Lk
def pathL (r : Rt) : List Int := r.path.map St.sec
def overK (k : Kp) (r : Rt) (i : Nat) : List Int := r.over.filter fun s => decide (ownAt k.own s = (i : Int) + 1)
def ptAt (k : Kp) (s : Int) : Mo := k.pts.getD s.toNat default
def crAt (k : Kp) (s : Int) : Mo := k.crs.getD s.toNat default
def lnAt (k : Kp) (l : Int) : Ln := k.lns.getD l.toNat default
def standB (v : Vp) (age : Int) (k : Kp) (l : List Nd) : Bool := l.all fun n => decide ((ptAt k n.sec).cmd = n.pos) && prB v.pos n.sec (ptAt k n.sec) age
def closedB (v : Vp) (age : Int) (k : Kp) (l : List Int) : Bool := l.all fun n => prB v.shut n (crAt k n) age
def grantB (c : Cf) (k : Kp) (r : Rt) : Bool := decide (lineM c.secs r.path = 0) || decide ((lnAt k (lineM c.secs r.path)).pg = (lnAt k (lineM c.secs r.path)).ask)
/-- is the route ready? -/
def readyB (c : Cf) (v : Vp) (k : Kp) (i : Nat) : Bool :=
  (pathL (rtAt c i)).all (clrB v.occ) && ((overK k (rtAt c i) i).all (clrB v.occ) && (standB v c.tm.age k (needsM c.secs (rtAt c i)) &&
    (closedB v c.tm.age k (crsM c.crs (rtAt c i).path) && (litB v.lamp (rtAt c i).entry && grantB c k (rtAt c i)))))
def rset (k : Kp) (i : Nat) (x : Rs) : Kp := { k with rts := k.rts.set i x }
def freeK (k : Kp) (s : Int) : Kp := { k with own := k.own.set s.toNat 0, dirty := true }
/-- the route is done: it owns nothing any more -/
def doneK (c : Cf) (k : Kp) (i : Nat) : Kp :=
  { k with own := k.own.map fun o => if o = (i : Int) + 1 then 0 else o
           rts := k.rts.set i ⟨0, 0, 0, 0⟩
           lns := if lineM c.secs (rtAt c i).path = 0 then k.lns else k.lns.set (lineM c.secs (rtAt c i).path).toNat { lnAt k (lineM c.secs (rtAt c i).path) with dn := (lnAt k (lineM c.secs (rtAt c i).path)).ask }
           dirty := true }
def nxtSec (c : Cf) (k : Kp) (i : Nat) : Int := (pathL (rtAt c i)).getD (rsAt k i).nxt.toNat 0
/-- one section further -/
def passK (c : Cf) (v : Vp) (now : Int) (k : Kp) (i : Nat) : Kp :=
  if (rsAt k i).nxt = (rtAt c i).path.length then k
  else if ownAt k.own (nxtSec c k i) ≠ (i : Int) + 1 then rset k i { rsAt k i with nxt := (rsAt k i).nxt + 1 }
  else if clbB v.occ (nxtSec c k i) (max ((rsAt k i).since + c.tm.hold) (rsAt k i).mark) = true then rset (freeK k (nxtSec c k i)) i { rsAt k i with nxt := (rsAt k i).nxt + 1, mark := now }
  else k
def giveK (c : Cf) (v : Vp) (now : Int) (k : Kp) (i : Nat) : Kp :=
  if now < (rsAt k i).since + c.tm.hold then k
  else if (rsAt (passK c v now k i) i).nxt = (rtAt c i).path.length then doneK c (passK c v now k i) i else passK c v now k i
/-- a route goes on; rec: was the state recorded ahead of the cycle? -/
def goK (c : Cf) (v : Vp) (rec : Bool) (now : Int) (k : Kp) (i : Nat) : Kp :=
  if (rsAt k i).st = 1 then (if (rec && readyB c v k i) = true then rset k i { rsAt k i with st := 2 } else k)
  else if (rsAt k i).st = 2 ∨ (rsAt k i).st = 3 then
    (if (pathL (rtAt c i)).all (clrB v.occ) = false then rset k i { rsAt k i with st := 4, since := now, mark := 0 }
     else if (rsAt k i).st = 2 ∧ readyB c v k i = false then rset k i { rsAt k i with st := 3 } else k)
  else if (rsAt k i).st = 4 then giveK c v now k i
  else k
def goAll (c : Cf) (v : Vp) (rec : Bool) (now : Int) (k : Kp) (n : Nat) : Kp := (List.range n).foldl (goK c v rec now) k
def crossK (c : Cf) (now : Int) (k : Kp) (n : Nat) : Kp :=
  { k with crs := k.crs.set n (cmdM (k.crs.getD n default) now (if ownAt k.own (c.crs.getD n 0) = 0 then 2 else 1)) }
def crossAll (c : Cf) (now : Int) (k : Kp) (n : Nat) : Kp := (List.range n).foldl (crossK c now) k
def resK (v : Vp) (k : Kp) (s : Nat) : Kp :=
  if k.rss.getD s 0 = 0 then k
  else if ownAt k.own s ≠ -1 then { k with rss := k.rss.set s 0 }
  else if clbB v.occ s (k.rss.getD s 0 - 1) = true then { freeK k s with rss := k.rss.set s 0 }
  else k
def resAll (v : Vp) (k : Kp) (n : Nat) : Kp := (List.range n).foldl (resK v) k
/-- the state behind a cycle that is done -/
def cycK (c : Cf) (v : Vp) (now : Int) (k : Kp) : Kp := resAll v (crossAll c now (goAll c v (!k.dirty) now k c.rts.length) c.crs.length) k.rss.length
/-! ### What stays -/
theorem rsAt_nat {k : Kp} {i : Nat} (hi : i < k.rts.length) : rsAt k i = k.rts[i] := by
  unfold rsAt
  rw [Int.toNat_natCast, List.getD_eq_getElem?_getD, List.getElem?_eq_getElem hi]
  rfl
theorem rset_len (k : Kp) (i : Nat) (x : Rs) : (rset k i x).rts.length = k.rts.length := List.length_set ..
theorem passK_len (c : Cf) (v : Vp) (now : Int) (k : Kp) (i : Nat) : (passK c v now k i).rts.length = k.rts.length ∧ (passK c v now k i).own.length = k.own.length := by
  unfold passK
  split
  · exact ⟨rfl, rfl⟩
  · split
    · exact ⟨rset_len .., rfl⟩
    · split
      · exact ⟨rset_len .., List.length_set ..⟩
      · exact ⟨rfl, rfl⟩
theorem giveK_len (c : Cf) (v : Vp) (now : Int) (k : Kp) (i : Nat) : (giveK c v now k i).rts.length = k.rts.length ∧ (giveK c v now k i).own.length = k.own.length := by
  have h := passK_len c v now k i
  unfold giveK
  split
  · exact ⟨rfl, rfl⟩
  · split
    · exact ⟨(List.length_set ..).trans h.1, (List.length_map ..).trans h.2⟩
    · exact h
theorem goK_len (c : Cf) (v : Vp) (rec : Bool) (now : Int) (k : Kp) (i : Nat) : (goK c v rec now k i).rts.length = k.rts.length ∧ (goK c v rec now k i).own.length = k.own.length := by
  unfold goK
  split
  · split
    · exact ⟨rset_len .., rfl⟩
    · exact ⟨rfl, rfl⟩
  · split
    · split
      · exact ⟨rset_len .., rfl⟩
      · split
        · exact ⟨rset_len .., rfl⟩
        · exact ⟨rfl, rfl⟩
    · split
      · exact giveK_len ..
      · exact ⟨rfl, rfl⟩
/-- a route's step leaves the other routes -/
theorem rset_other {k : Kp} {i j : Nat} {x : Rs} (h : i ≠ j) : rsAt (rset k i x) j = rsAt k j := by
  show (k.rts.set i x).getD (Int.toNat (j : Int)) default = k.rts.getD (Int.toNat (j : Int)) default
  simp only [Int.toNat_natCast, List.getD_eq_getElem?_getD, List.getElem?_set_ne h]
theorem passK_other (c : Cf) (v : Vp) (now : Int) (k : Kp) {i j : Nat} (h : i ≠ j) : rsAt (passK c v now k i) j = rsAt k j := by
  unfold passK
  split
  · rfl
  · split
    · exact rset_other h
    · split
      · exact rset_other (k := freeK k (nxtSec c k i)) h
      · rfl
theorem giveK_other (c : Cf) (v : Vp) (now : Int) (k : Kp) {i j : Nat} (h : i ≠ j) : rsAt (giveK c v now k i) j = rsAt k j := by
  unfold giveK
  split
  · rfl
  · split
    · exact (rset_other (k := passK c v now k i) h).trans (passK_other c v now k h)
    · exact passK_other c v now k h
theorem goK_other (c : Cf) (v : Vp) (rec : Bool) (now : Int) (k : Kp) {i j : Nat} (h : i ≠ j) : rsAt (goK c v rec now k i) j = rsAt k j := by
  unfold goK
  split
  · split
    · exact rset_other h
    · rfl
  · split
    · split
      · exact rset_other h
      · split
        · exact rset_other h
        · rfl
    · split
      · exact giveK_other c v now k h
      · rfl
/-- what a route that ends gives back was its own, long enough behind its end -/
theorem passK_own (c : Cf) (v : Vp) (now : Int) (k : Kp) (i s : Nat) (hp : 0 ≤ nxtSec c k i) (hs : s < k.own.length) : ownAt (passK c v now k i).own s = ownAt k.own s ∨ ownAt (passK c v now k i).own s = 0 ∧ ownAt k.own s = (i : Int) + 1 ∧ nxtSec c k i = s ∧ (passK c v now k i).dirty = true ∧ clbB v.occ s (max ((rsAt k i).since + c.tm.hold) (rsAt k i).mark) = true := by
  unfold passK
  split
  · exact .inl rfl
  · split
    · exact .inl rfl
    · rename_i h2
      have h2 : ownAt k.own (nxtSec c k i) = (i : Int) + 1 := by omega
      split
      · rename_i h3
        by_cases h : (nxtSec c k i).toNat = s
        · have e : nxtSec c k i = (s : Int) := by omega
          refine .inr ⟨?_, by rw [← e]; exact h2, e, rfl, by rw [← e]; exact h3⟩
          show ownAt (k.own.set (nxtSec c k i).toNat 0) s = 0
          rw [h]
          unfold ownAt
          simp [hs]
        · refine .inl ?_
          show ownAt (k.own.set (nxtSec c k i).toNat 0) s = _
          unfold ownAt
          simp only [Int.toNat_natCast, List.getD_eq_getElem?_getD, List.getElem?_set_ne h]
      · exact .inl rfl
theorem doneK_own (c : Cf) (k : Kp) (i s : Nat) (hs : s < k.own.length) : ownAt (doneK c k i).own s = if ownAt k.own s = (i : Int) + 1 then 0 else ownAt k.own s := by
  unfold ownAt
  show (k.own.map fun o => if o = (i : Int) + 1 then 0 else o).getD (Int.toNat (s : Int)) 0 = _
  simp only [Int.toNat_natCast, List.getD_eq_getElem?_getD, List.getElem?_map, List.getElem?_eq_getElem hs, Option.map_some, Option.getD_some]
theorem giveK_own (c : Cf) (v : Vp) (now : Int) (k : Kp) (i s : Nat) (hp : 0 ≤ nxtSec c k i) (hs : s < k.own.length) : ownAt (giveK c v now k i).own s = ownAt k.own s ∨ ownAt (giveK c v now k i).own s = 0 ∧ ownAt k.own s = (i : Int) + 1 ∧ (rsAt k i).since + c.tm.hold ≤ now ∧ (giveK c v now k i).dirty = true := by
  unfold giveK
  split
  · exact .inl rfl
  · rename_i h1
    have q := passK_own c v now k i s hp hs
    split
    · rw [doneK_own c _ i s (by rw [(passK_len c v now k i).2]; exact hs)]
      rcases q with q | ⟨q0, q1, -, q3, -⟩
      · rw [q]
        split
        · rename_i h2
          exact .inr ⟨rfl, h2, by omega, rfl⟩
        · exact .inl rfl
      · refine .inr ⟨?_, q1, by omega, rfl⟩
        rw [q0]
        split <;> rfl
    · rcases q with q | ⟨q0, q1, -, q3, -⟩
      · exact .inl q
      · exact .inr ⟨q0, q1, by omega, q3⟩
theorem goK_own (c : Cf) (v : Vp) (rec : Bool) (now : Int) (k : Kp) (i s : Nat) (hp : 0 ≤ nxtSec c k i) (hs : s < k.own.length) : ownAt (goK c v rec now k i).own s = ownAt k.own s ∨ ownAt (goK c v rec now k i).own s = 0 ∧ ownAt k.own s = (i : Int) + 1 ∧ (rsAt k i).st = 4 ∧ (rsAt k i).since + c.tm.hold ≤ now ∧ (goK c v rec now k i).dirty = true := by
  unfold goK
  split
  · split <;> exact .inl rfl
  · split
    · split
      · exact .inl rfl
      · split <;> exact .inl rfl
    · split
      · rename_i h
        rcases giveK_own c v now k i s hp hs with q | ⟨q0, q1, q2, q3⟩
        · exact .inl q
        · exact .inr ⟨q0, q1, h, q2, q3⟩
      · exact .inl rfl
/-- along the routes: what is given back was of one that ended, long enough behind its end; a route's state is its own step's -/
theorem goAll_succ (c : Cf) (v : Vp) (rec : Bool) (now : Int) (k : Kp) (n : Nat) : goAll c v rec now k (n + 1) = goK c v rec now (goAll c v rec now k n) n := by
  unfold goAll
  rw [List.range_succ, List.foldl_append]
  rfl
theorem goAll_len (c : Cf) (v : Vp) (rec : Bool) (now : Int) (k : Kp) : ∀ n, (goAll c v rec now k n).rts.length = k.rts.length ∧ (goAll c v rec now k n).own.length = k.own.length
  | 0 => ⟨rfl, rfl⟩
  | n + 1 => by
    rw [goAll_succ]
    have a := goAll_len c v rec now k n
    have b := goK_len c v rec now (goAll c v rec now k n) n
    exact ⟨b.1.trans a.1, b.2.trans a.2⟩
theorem goAll_later (c : Cf) (v : Vp) (rec : Bool) (now : Int) (k : Kp) : ∀ n j, n ≤ j → rsAt (goAll c v rec now k n) j = rsAt k j
  | 0, _, _ => rfl
  | n + 1, j, h => by
    rw [goAll_succ, goK_other (h := by omega)]
    exact goAll_later c v rec now k n j (by omega)
theorem passK_dirty (c : Cf) (v : Vp) (now : Int) (k : Kp) (i : Nat) (h : k.dirty = true) : (passK c v now k i).dirty = true := by
  unfold passK
  split
  · exact h
  · split
    · exact h
    · split
      · rfl
      · exact h
theorem goK_dirty (c : Cf) (v : Vp) (rec : Bool) (now : Int) (k : Kp) (i : Nat) (h : k.dirty = true) : (goK c v rec now k i).dirty = true := by
  unfold goK
  split
  · split <;> exact h
  · split
    · split
      · exact h
      · split <;> exact h
    · split
      · unfold giveK
        split
        · exact h
        · split
          · rfl
          · exact passK_dirty c v now k i h
      · exact h
theorem nxtSec_pos {c : Cf} {k : Kp} {i : Nat} (h : ∀ x ∈ pathL (rtAt c i), 0 ≤ x) : 0 ≤ nxtSec c k i := by
  unfold nxtSec
  rw [List.getD_eq_getElem?_getD]
  cases e : (pathL (rtAt c i))[(rsAt k i).nxt.toNat]? with
  | none => exact Int.le_refl 0
  | some x => exact h x (List.mem_of_getElem? e)
theorem goAll_own (c : Cf) (v : Vp) (rec : Bool) (now : Int) (k : Kp) (hp : ∀ i, ∀ x ∈ pathL (rtAt c i), 0 ≤ x) (s : Nat) (hs : s < k.own.length) : ∀ n,
    ownAt (goAll c v rec now k n).own s = ownAt k.own s ∨ ownAt (goAll c v rec now k n).own s = 0 ∧ (goAll c v rec now k n).dirty = true ∧
      ∃ i : Nat, i < n ∧ ownAt k.own s = (i : Int) + 1 ∧ (rsAt k i).st = 4 ∧ (rsAt k i).since + c.tm.hold ≤ now
  | 0 => .inl rfl
  | n + 1 => by
    rw [goAll_succ]
    have q := goK_own c v rec now (goAll c v rec now k n) n s (nxtSec_pos (hp n)) (by rw [(goAll_len c v rec now k n).2]; exact hs)
    have r := goAll_own c v rec now k hp s hs n
    have l : rsAt (goAll c v rec now k n) n = rsAt k n := goAll_later c v rec now k n n (Nat.le_refl n)
    rcases q with q | ⟨q0, q1, q2, q3, q4⟩
    · rw [q]
      rcases r with r | ⟨r0, r1, i, r2, r3⟩
      · exact .inl r
      · exact .inr ⟨r0, goK_dirty c v rec now _ n r1, i, by omega, r3⟩
    · rcases r with r | ⟨r0, -⟩
      · rw [l] at q2 q3
        exact .inr ⟨q0, q4, n, by omega, by rw [← r]; exact q1, q2, q3⟩
      · omega
theorem crossAll_same (c : Cf) (now : Int) (k : Kp) : ∀ n, (crossAll c now k n).own = k.own ∧ (crossAll c now k n).rts = k.rts ∧ (crossAll c now k n).rss = k.rss ∧ (crossAll c now k n).dirty = k.dirty
  | 0 => ⟨rfl, rfl, rfl, rfl⟩
  | n + 1 => by
    have h := crossAll_same c now k n
    unfold crossAll at h ⊢
    rw [List.range_succ, List.foldl_append]
    exact h
theorem resAll_succ (v : Vp) (k : Kp) (n : Nat) : resAll v k (n + 1) = resK v (resAll v k n) n := by
  unfold resAll
  rw [List.range_succ, List.foldl_append]
  rfl
theorem resK_len (v : Vp) (k : Kp) (s : Nat) : (resK v k s).own.length = k.own.length ∧ (resK v k s).rts = k.rts := by
  unfold resK
  split
  · exact ⟨rfl, rfl⟩
  · split
    · exact ⟨rfl, rfl⟩
    · split
      · exact ⟨List.length_set .., rfl⟩
      · exact ⟨rfl, rfl⟩
theorem resAll_len (v : Vp) (k : Kp) : ∀ n, (resAll v k n).own.length = k.own.length ∧ (resAll v k n).rts = k.rts
  | 0 => ⟨rfl, rfl⟩
  | n + 1 => by
    rw [resAll_succ]
    have a := resAll_len v k n
    have b := resK_len v (resAll v k n) n
    exact ⟨b.1.trans a.1, b.2.trans a.2⟩
theorem resK_dirty (v : Vp) (k : Kp) (s : Nat) (h : k.dirty = true) : (resK v k s).dirty = true := by
  unfold resK
  split
  · exact h
  · split
    · exact h
    · split
      · rfl
      · exact h
theorem resK_rss (v : Vp) (k : Kp) (s j : Nat) (h : s ≠ j) : (resK v k s).rss.getD j 0 = k.rss.getD j 0 := by
  unfold resK
  split
  · rfl
  · split
    · show (k.rss.set s 0).getD j 0 = _
      simp only [List.getD_eq_getElem?_getD, List.getElem?_set_ne h]
    · split
      · show (k.rss.set s 0).getD j 0 = _
        simp only [List.getD_eq_getElem?_getD, List.getElem?_set_ne h]
      · rfl
theorem resAll_rss (v : Vp) (k : Kp) : ∀ n j, n ≤ j → (resAll v k n).rss.getD j 0 = k.rss.getD j 0
  | 0, _, _ => rfl
  | n + 1, j, h => by
    rw [resAll_succ, resK_rss (h := by omega)]
    exact resAll_rss v k n j (by omega)
theorem resK_own (v : Vp) (k : Kp) (i s : Nat) (hs : s < k.own.length) : ownAt (resK v k i).own s = ownAt k.own s ∨ i = s ∧ ownAt (resK v k i).own s = 0 ∧ ownAt k.own s = -1 ∧ k.rss.getD s 0 ≠ 0 ∧ clbB v.occ s (k.rss.getD s 0 - 1) = true ∧ (resK v k i).dirty = true := by
  unfold resK
  split
  · exact .inl rfl
  · rename_i h1
    split
    · exact .inl rfl
    · rename_i h2
      split
      · rename_i h3
        by_cases h : i = s
        · subst h
          refine .inr ⟨rfl, ?_, by omega, h1, h3, rfl⟩
          show ownAt (k.own.set (Int.toNat (i : Int)) 0) i = 0
          unfold ownAt
          simp [hs]
        · refine .inl ?_
          show ownAt (k.own.set (Int.toNat (i : Int)) 0) s = _
          unfold ownAt
          simp only [Int.toNat_natCast, List.getD_eq_getElem?_getD, List.getElem?_set_ne h]
      · exact .inl rfl
theorem resAll_own (v : Vp) (k : Kp) (s : Nat) (hs : s < k.own.length) : ∀ n,
    ownAt (resAll v k n).own s = ownAt k.own s ∨ ownAt (resAll v k n).own s = 0 ∧ ownAt k.own s = -1 ∧ k.rss.getD s 0 ≠ 0 ∧ clbB v.occ s (k.rss.getD s 0 - 1) = true ∧ (resAll v k n).dirty = true
  | 0 => .inl rfl
  | n + 1 => by
    rw [resAll_succ]
    have q := resK_own v (resAll v k n) n s (by rw [(resAll_len v k n).1]; exact hs)
    have r := resAll_own v k s hs n
    rcases q with q | ⟨rfl, q0, q1, q2, q3, q4⟩
    · rw [q]
      rcases r with r | ⟨r0, r1, r2, r3, r4⟩
      · exact .inl r
      · exact .inr ⟨r0, r1, r2, r3, resK_dirty v _ n r4⟩
    · rw [resAll_rss v k n n (Nat.le_refl n)] at q2 q3
      rcases r with r | ⟨r0, r1, r2, r3, -⟩
      · exact .inr ⟨q0, by rw [← r]; exact q1, q2, q3, q4⟩
      · exact .inr ⟨q0, r1, r2, r3, q4⟩
theorem resAll_dirty (v : Vp) (k : Kp) (h : k.dirty = true) : ∀ n, (resAll v k n).dirty = true
  | 0 => h
  | n + 1 => by rw [resAll_succ]; exact resK_dirty v _ n (resAll_dirty v k h n)
end Go.Proofs.YtginfnbdnkgjbaaGreat.Nk
/- A cycle under way, behind its address; what a store leaves of it. -/
namespace Go.Proofs.YtginfnbdnkgjbaaGreat.Nk
open Go.RowKit Lk

/-- the 22 cells of a cycle: what is seen, the state, the configuration, was it recorded -/
def cyArr (V : Vm) (K : Km) (C : Cm) (rec : Bool) : Array Value := #[.slice V.A1 V.occ.length V.c1, .slice V.A2 V.pos.length V.c2, .slice V.A3 V.shut.length V.c3, .slice V.A4 V.lamp.length V.c4, .int .i64 C.tm.age,
  .slice K.A1 K.own.length K.c1, .slice K.A2 K.rts.length K.c2, .slice K.A3 K.pts.length K.c3, .slice K.A4 K.crs.length K.c4, .slice K.A5 K.lns.length K.c5, .slice K.A6 K.rss.length K.c6, .bool K.dirty,
  .slice C.A1 C.l.length C.c1, .slice C.A2 C.js.length C.c2, .slice C.A3 C.sg.length C.c3, .slice C.A4 C.cr.length C.c4, .slice C.A5 C.rs.length C.c5, .int .i64 C.tm.age, .int .i64 C.tm.brake, .int .i64 C.tm.hold, .int .i64 C.tm.budget, .bool rec]
/-- the cycle behind its address, all made since w0 -/
structure Cy (w0 w : World) (sb : Nat) (V : Vm) (K : Km) (C : Cm) (rec : Bool) : Prop where
  is : Is w sb 140 (cyArr V K C rec)
  own : K.Own w0.heap.size w
  f : Fr (fun _ => False) w0 w
  hb : w0.heap.size ≤ sb
  vok : V.Ok w
  cok : C.Ok w
/-- the same lists in memory, with other things in them -/
def kw (K : Km) (k : Kp) : Km := ⟨K.A1, K.c1, k.own, K.A2, K.c2, k.rts, K.A3, K.c3, k.pts, K.A4, K.c4, k.crs, K.A5, K.c5, k.lns, K.A6, K.c6, k.rss, k.dirty⟩
/-- has the view a look for each element? -/
structure Sees (C : Cm) (V : Vm) : Prop where
  occ : V.occ.length = C.l.length
  pos : V.pos.length = C.l.length
  shut : V.shut.length = C.cr.length
  lamp : V.lamp.length = C.sg.length
namespace Cy
variable {w0 w : World} {sb : Nat} {V : Vm} {K : Km} {C : Cm} {rec : Bool}
theorem no (h : Cy w0 w sb V K C rec) : ¬ K.at sb := h.own.ne_is h.is (by decide) (by decide) (by decide) (by decide)
theorem fr {w1 : World} (h : Cy w0 w sb V K C rec) (f : Fr (fun _ => False) w w1) : Cy w0 w1 sb V K C rec := ⟨h.is.fr f id, h.own.fr f fun _ _ => id, h.f.trans f fun _ _ e => e, h.hb, h.vok.fr f, h.cok.fr f⟩
theorem drew (h : Cy w0 w sb V K C rec) : Cy w0 w.drew sb V K C rec := h.fr (Fr.refl _ _).drew
theorem drewN (h : Cy w0 w sb V K C rec) (n : Nat) : Cy w0 (w.drewN n) sb V K C rec := h.fr ((Fr.refl _ _).drewN n)
/-- what was read at w0 is read still -/
theorem old {w1 : World} (h : Cy w0 w sb V K C rec) (hv : V.Ok w0) (hc : C.Ok w0) (hf : Fr (fun _ => False) w0 w1) (is : Is w1 sb 140 (cyArr V K C rec)) (own : K.Own w0.heap.size w1) : Cy w0 w1 sb V K C rec :=
  ⟨is, own, hf, h.hb, hv.fr hf, hc.fr hf⟩
theorem eye5 (h : Cy w0 w sb V K C rec) : w.cell? ⟨sb, 0, none⟩ = some (.slice V.A1 V.occ.length V.c1) ∧ w.cell? ⟨sb, 1, none⟩ = some (.slice V.A2 V.pos.length V.c2) ∧ w.cell? ⟨sb, 2, none⟩ = some (.slice V.A3 V.shut.length V.c3) ∧ w.cell? ⟨sb, 3, none⟩ = some (.slice V.A4 V.lamp.length V.c4) ∧ w.cell? ⟨sb, 4, none⟩ = some (.int .i64 C.tm.age) :=
  ⟨h.is.cell 0, h.is.cell 1, h.is.cell 2, h.is.cell 3, h.is.cell 4⟩
theorem plan9 (h : Cy w0 w sb V K C rec) : w.cell? ⟨sb, 12, none⟩ = some (.slice C.A1 C.l.length C.c1) ∧ w.cell? ⟨sb, 13, none⟩ = some (.slice C.A2 C.js.length C.c2) ∧ w.cell? ⟨sb, 14, none⟩ = some (.slice C.A3 C.sg.length C.c3) ∧ w.cell? ⟨sb, 15, none⟩ = some (.slice C.A4 C.cr.length C.c4) ∧ w.cell? ⟨sb, 16, none⟩ = some (.slice C.A5 C.rs.length C.c5) ∧
    w.cell? ⟨sb, 17, none⟩ = some (.int .i64 C.tm.age) ∧ w.cell? ⟨sb, 18, none⟩ = some (.int .i64 C.tm.brake) ∧ w.cell? ⟨sb, 19, none⟩ = some (.int .i64 C.tm.hold) ∧ w.cell? ⟨sb, 20, none⟩ = some (.int .i64 C.tm.budget) :=
  ⟨h.is.cell 12, h.is.cell 13, h.is.cell 14, h.is.cell 15, h.is.cell 16, h.is.cell 17, h.is.cell 18, h.is.cell 19, h.is.cell 20⟩
/-- a store into one of the state's lists -/
theorem put {g i : Nat} {u : Value} {K' : Km} (h : Cy w0 w sb V K C rec) (hk : K.at g) (ho : K'.Own w0.heap.size (w.setCell ⟨g, i, none⟩ u)) (he : cyArr V K' C rec = cyArr V K C rec) (hv : V.Ok w0) (hc : C.Ok w0) : Cy w0 (w.setCell ⟨g, i, none⟩ u) sb V K' C rec := by
  have hg := (h.own.lt g hk).1
  have hne : ¬ sb = g := fun e => h.no (e ▸ hk)
  have f := h.f.setCell (p := ⟨g, i, none⟩) (.inr hg) u
  exact ⟨by rw [he]; exact h.is.far (p := ⟨g, i, none⟩) hne u, ho, f, h.hb, hv.fr f, hc.fr f⟩
theorem rcell (h : Cy w0 w sb V K C rec) (hv : V.Ok w0) (hc : C.Ok w0) {j g k : Nat} (hj : j < K.rts.length) (hA : K.A2 = some ⟨g, 0, none⟩) (hk : k < 4) (x : Int) (a' : Rs) (ha : cRs a' = (cRs K.rts[j]).set k (.int .i64 x)) :
    Cy w0 (w.setCell ⟨g, j * 4 + k, none⟩ (.int .i64 x)) sb V { K with rts := K.rts.set j a' } C rec := by
  obtain ⟨g0, e0, _, _, _, _, h0⟩ := h.own.set2 hj hk x a' ha
  have f0 : g0 = g := by rw [hA] at e0; injection e0 with e; injection e with e; exact e.symm
  subst f0
  exact h.put (.inr (.inl (by rw [hA]; rfl))) h0 (by unfold cyArr; simp only [List.length_set]) hv hc
theorem owner (h : Cy w0 w sb V K C rec) (hv : V.Ok w0) (hc : C.Ok w0) {j g : Nat} (hj : j < K.own.length) (hA : K.A1 = some ⟨g, 0, none⟩) (x : Int) : Cy w0 (w.setCell ⟨g, j, none⟩ (.int .i64 x)) sb V { K with own := K.own.set j x } C rec := by
  obtain ⟨g0, e0, _, _, _, _, h0⟩ := h.own.set1 hj x
  have f0 : g0 = g := by rw [hA] at e0; injection e0 with e; injection e with e; exact e.symm
  subst f0
  exact h.put (.inl (by rw [hA]; rfl)) h0 (by unfold cyArr; simp only [List.length_set]) hv hc
theorem due (h : Cy w0 w sb V K C rec) (hv : V.Ok w0) (hc : C.Ok w0) {j g : Nat} (hj : j < K.rss.length) (hA : K.A6 = some ⟨g, 0, none⟩) (x : Int) : Cy w0 (w.setCell ⟨g, j, none⟩ (.int .i64 x)) sb V { K with rss := K.rss.set j x } C rec := by
  obtain ⟨g0, e0, _, _, _, _, h0⟩ := h.own.set6 hj x
  have f0 : g0 = g := by rw [hA] at e0; injection e0 with e; injection e with e; exact e.symm
  subst f0
  exact h.put (.inr (.inr (.inr (.inr (.inr (by rw [hA]; rfl)))))) h0 (by unfold cyArr; simp only [List.length_set]) hv hc
theorem lcell (h : Cy w0 w sb V K C rec) (hv : V.Ok w0) (hc : C.Ok w0) {j g : Nat} (hj : j < K.lns.length) (hA : K.A5 = some ⟨g, 0, none⟩) (x : Int) : Cy w0 (w.setCell ⟨g, j * 8 + 1, none⟩ (.int .i64 x)) sb V { K with lns := K.lns.set j { K.lns[j] with dn := x } } C rec := by
  obtain ⟨g0, e0, _, _, _, _, h0⟩ := h.own.set5 hj (k := 1) (by decide) x { K.lns[j] with dn := x } rfl
  have f0 : g0 = g := by rw [hA] at e0; injection e0 with e; injection e with e; exact e.symm
  subst f0
  exact h.put (.inr (.inr (.inr (.inr (.inl (by rw [hA]; rfl)))))) h0 (by unfold cyArr; simp only [List.length_set]) hv hc
theorem xcell (h : Cy w0 w sb V K C rec) (hv : V.Ok w0) (hc : C.Ok w0) {j g k : Nat} (hj : j < K.crs.length) (hA : K.A4 = some ⟨g, 0, none⟩) (hk : k < 2) (x : Int) (a' : Mo) (ha : cMo a' = (cMo K.crs[j]).set k (.int .i64 x)) :
    Cy w0 (w.setCell ⟨g, j * 2 + k, none⟩ (.int .i64 x)) sb V { K with crs := K.crs.set j a' } C rec := by
  obtain ⟨g0, e0, _, _, _, _, h0⟩ := h.own.set4 hj hk x a' ha
  have f0 : g0 = g := by rw [hA] at e0; injection e0 with e; injection e with e; exact e.symm
  subst f0
  exact h.put (.inr (.inr (.inr (.inl (by rw [hA]; rfl))))) h0 (by unfold cyArr; simp only [List.length_set]) hv hc
theorem dirt (h : Cy w0 w sb V K C rec) (hv : V.Ok w0) (hc : C.Ok w0) (b : Bool) : Cy w0 (w.setCell ⟨sb, 11, none⟩ (.bool b)) sb V { K with dirty := b } C rec := by
  have o := h.own.fr ((Fr.refl (fun k => k = sb) w).setCell (p := ⟨sb, 11, none⟩) (.inl rfl) (.bool b)) (fun k hk e => h.no (e ▸ hk))
  have f := h.f.setCell (p := ⟨sb, 11, none⟩) (.inr h.hb) (.bool b)
  exact ⟨h.is.set 11 (.bool b), ⟨o.own, o.rts, o.pts, o.crs, o.lns, o.rss, o.d16, o.d34⟩, f, h.hb, hv.fr f, hc.fr f⟩
/-- a route's state, whole -/
theorem route (h : Cy w0 w sb V K C rec) (hv : V.Ok w0) (hc : C.Ok w0) {j g : Nat} (hj : j < K.rts.length) (hA : K.A2 = some ⟨g, 0, none⟩) (x : Rs) :
    Cy w0 ((((w.setCell ⟨g, j * 4, none⟩ (.int .i64 x.st)).setCell ⟨g, j * 4 + 1, none⟩ (.int .i64 x.since)).setCell ⟨g, j * 4 + 2, none⟩ (.int .i64 x.nxt)).setCell ⟨g, j * 4 + 3, none⟩ (.int .i64 x.mark)) sb V { K with rts := K.rts.set j x } C rec := by
  obtain ⟨a, b, c, d⟩ := x
  have h0 := h.rcell hv hc hj hA (k := 0) (by decide) a ⟨a, K.rts[j].since, K.rts[j].nxt, K.rts[j].mark⟩ rfl
  have h1 := h0.rcell hv hc (j := j) (k := 1) (by simpa using hj) hA (by decide) b ⟨a, b, K.rts[j].nxt, K.rts[j].mark⟩ (by simp [cRs])
  have h2 := h1.rcell hv hc (j := j) (k := 2) (by simpa using hj) hA (by decide) c ⟨a, b, c, K.rts[j].mark⟩ (by simp [cRs])
  have h3 := h2.rcell hv hc (j := j) (k := 3) (by simpa using hj) hA (by decide) d ⟨a, b, c, d⟩ (by simp [cRs])
  simpa only [List.set_set, Nat.add_zero] using h3
theorem cross (h : Cy w0 w sb V K C rec) (hv : V.Ok w0) (hc : C.Ok w0) {j g : Nat} (hj : j < K.crs.length) (hA : K.A4 = some ⟨g, 0, none⟩) (x : Mo) :
    Cy w0 ((w.setCell ⟨g, j * 2, none⟩ (.int .i64 x.cmd)).setCell ⟨g, j * 2 + 1, none⟩ (.int .i64 x.oth)) sb V { K with crs := K.crs.set j x } C rec := by
  obtain ⟨a, b⟩ := x
  have h0 := h.xcell hv hc hj hA (k := 0) (by decide) a ⟨a, K.crs[j].oth⟩ rfl
  have h1 := h0.xcell hv hc (j := j) (k := 1) (by simpa using hj) hA (by decide) b ⟨a, b⟩ (by simp [cMo])
  simpa only [List.set_set, Nat.add_zero] using h1
/-- where the lists lie, and their cells -/
theorem at1 (h : Cy w0 w sb V K C rec) {j : Nat} (hj : j < K.own.length) : ∃ g, K.A1 = some ⟨g, 0, none⟩ ∧ w.cell? ⟨g, j, none⟩ = some (.int .i64 K.own[j]) ∧ w.frozen? ⟨g, j, none⟩ = false := by
  obtain ⟨g, hA, _, _, q, z, _⟩ := h.own.set1 hj 0
  exact ⟨g, hA, q, z⟩
theorem at6 (h : Cy w0 w sb V K C rec) {j : Nat} (hj : j < K.rss.length) : ∃ g, K.A6 = some ⟨g, 0, none⟩ ∧ w.cell? ⟨g, j, none⟩ = some (.int .i64 K.rss[j]) ∧ w.frozen? ⟨g, j, none⟩ = false := by
  obtain ⟨g, hA, _, _, q, z, _⟩ := h.own.set6 hj 0
  exact ⟨g, hA, q, z⟩
theorem at2 (h : Cy w0 w sb V K C rec) {j : Nat} (hj : j < K.rts.length) : ∃ g, K.A2 = some ⟨g, 0, none⟩ ∧ w.cell? ⟨g, j * 4, none⟩ = some (.int .i64 K.rts[j].st) ∧ w.cell? ⟨g, j * 4 + 1, none⟩ = some (.int .i64 K.rts[j].since) ∧ w.cell? ⟨g, j * 4 + 2, none⟩ = some (.int .i64 K.rts[j].nxt) ∧ w.cell? ⟨g, j * 4 + 3, none⟩ = some (.int .i64 K.rts[j].mark) ∧
    w.frozen? ⟨g, j * 4, none⟩ = false ∧ w.frozen? ⟨g, j * 4 + 1, none⟩ = false ∧ w.frozen? ⟨g, j * 4 + 2, none⟩ = false ∧ w.frozen? ⟨g, j * 4 + 3, none⟩ = false := by
  obtain ⟨g, hA, _, _⟩ := own_some h.own.rts (by omega)
  have ho := h.own.rts
  obtain ⟨g', o, e, c0, c1, c2, c3⟩ := rd_rs (wide_rd ho) hj
  rw [hA] at ho e
  injection e with e
  injection e with e1 e2
  subst e1 e2
  simp only [Nat.zero_add] at c0 c1 c2 c3
  exact ⟨g, hA, c0, c1, c2, c3, ho.frozenAt _, ho.frozenAt _, ho.frozenAt _, ho.frozenAt _⟩
theorem at3 (h : Cy w0 w sb V K C rec) {j : Nat} (hj : j < K.pts.length) : ∃ g, K.A3 = some ⟨g, 0, none⟩ ∧ w.cell? ⟨g, j * 2, none⟩ = some (.int .i64 K.pts[j].cmd) ∧ w.cell? ⟨g, j * 2 + 1, none⟩ = some (.int .i64 K.pts[j].oth) := by
  obtain ⟨g, hA, _, _⟩ := own_some h.own.pts (by omega)
  have ho := h.own.pts
  obtain ⟨g', o, e, c0, c1⟩ := rd_mo (wide_rd ho) hj
  rw [hA] at e
  injection e with e
  injection e with e1 e2
  subst e1 e2
  simp only [Nat.zero_add] at c0 c1
  exact ⟨g, hA, c0, c1⟩
theorem at4 (h : Cy w0 w sb V K C rec) {j : Nat} (hj : j < K.crs.length) : ∃ g, K.A4 = some ⟨g, 0, none⟩ ∧ w.cell? ⟨g, j * 2, none⟩ = some (.int .i64 K.crs[j].cmd) ∧ w.cell? ⟨g, j * 2 + 1, none⟩ = some (.int .i64 K.crs[j].oth) ∧ w.frozen? ⟨g, j * 2, none⟩ = false ∧ w.frozen? ⟨g, j * 2 + 1, none⟩ = false := by
  obtain ⟨g, hA, _, _⟩ := own_some h.own.crs (by omega)
  have ho := h.own.crs
  obtain ⟨g', o, e, c0, c1⟩ := rd_mo (wide_rd ho) hj
  rw [hA] at ho e
  injection e with e
  injection e with e1 e2
  subst e1 e2
  simp only [Nat.zero_add] at c0 c1
  exact ⟨g, hA, c0, c1, ho.frozenAt _, ho.frozenAt _⟩
theorem at5 (h : Cy w0 w sb V K C rec) {j : Nat} (hj : j < K.lns.length) : ∃ g, K.A5 = some ⟨g, 0, none⟩ ∧ w.cell? ⟨g, j * 8, none⟩ = some (.int .i64 K.lns[j].ask) ∧ w.cell? ⟨g, j * 8 + 1, none⟩ = some (.int .i64 K.lns[j].dn) ∧ w.cell? ⟨g, j * 8 + 6, none⟩ = some (.int .i64 K.lns[j].pg) ∧ w.frozen? ⟨g, j * 8 + 1, none⟩ = false := by
  obtain ⟨g, hA, _, _⟩ := own_some h.own.lns (by omega)
  have ho := h.own.lns
  obtain ⟨g', o, e, c0, c1, _, _, _, _, c6, _⟩ := rd_ln (wide_rd ho) hj
  rw [hA] at ho e
  injection e with e
  injection e with e1 e2
  subst e1 e2
  simp only [Nat.zero_add] at c0 c1 c6
  exact ⟨g, hA, c0, c1, c6, ho.frozenAt _⟩
end Cy
end Go.Proofs.YtginfnbdnkgjbaaGreat.Nk
/- Short calls on a cycle: who owns a section; the line that a route goes out on. -/
namespace Go.Proofs.YtginfnbdnkgjbaaGreat.Nk
open Go.RowKit Lk

theorem ownAt_get {l : List Int} {j : Nat} (hj : j < l.length) : ownAt l j = l[j] := by
  show l.getD (Int.toNat j) 0 = _
  rw [Int.toNat_natCast, List.getD_eq_getElem?_getD, List.getElem?_eq_getElem hj]; rfl
set_option maxRecDepth 100000 in
set_option maxHeartbeats 1000000 in
theorem owns_any {w0 w : World} {sb : Nat} {V : Vm} {K : Km} {C : Cm} {rec : Bool} (h : Cy w0 w sb V K C rec) {r s : Nat} (hr : r < 1000) (hs : s < K.own.length) :
    Calls Tryz.prog 204 #[.pointer (some ⟨sb, 0, none⟩), .int .i64 (r : Int), .int .i64 (s : Int)] w fun e w' => e = .returned (.bool (decide (ownAt K.own s = (r : Int) + 1))) ∧ w = w' := by
  obtain ⟨g, hA, c, _⟩ := h.at1 hs
  have c5 : w.cell? ⟨sb, 5, none⟩ = some (.slice K.A1 K.own.length K.c1) := h.is.cell 5
  rw [ownAt_get hs]
  rw [hA] at c5
  have i1 : (0 : Int) ≤ (s : Int) := by omega
  have i2 : (s : Int) < (K.own.length : Int) := by omega
  have i3 : wrap64 ((r : Int) + 1) = (r : Int) + 1 := IntWalk.wrap64_in _ ⟨by omega, by omega⟩
  generalize K.own[s] = o at *
  rw [show decide (o = (r : Int) + 1) = (o == (r : Int) + 1) from rfl]
  generalize hd : (o == (r : Int) + 1) = d
  have HD := Lib.hid hd
  clear hA h hr hs hd
  go_enter Tryz.func204, Tryz.ntmps204
  go_wp2_with fail
  go_ret
  exact ⟨by rw [← HD.out]; rfl, rfl⟩
set_option maxRecDepth 100000 in
set_option maxHeartbeats 1000000 in
theorem line_any {w0 w : World} {sb : Nat} {V : Vm} {K : Km} {C : Cm} {rec : Bool} (h : Cy w0 w sb V K C rec) {r : Nat} (hr : r < C.rs.length) {n s : Nat} (hn : C.rs[r].path.length = n + 1) (hs : (C.rs[r].path[n]'(by omega)).sec = (s : Int)) (hsl : s < C.l.length) :
    Calls Tryz.prog 208 #[.pointer (some ⟨sb, 0, none⟩), .int .i64 (r : Int)] w fun e w' => e = .returned (.int .i64 C.l[s].line) ∧ Fr (fun _ => False) w w' := by
  obtain ⟨p12, _, _, _, p16, _⟩ := h.plan9
  obtain ⟨g, o, hA, _, _, d2, _⟩ := rd_ro h.cok.rts hr
  obtain ⟨g2, o2, hA2, t0, _, _⟩ := rd_st (h.cok.each _ (List.getElem_mem hr)).path (j := n) (by omega)
  obtain ⟨g3, o3, hA3, _, _, s2⟩ := rd_sec h.cok.secs hsl
  rw [hs] at t0
  rw [hA] at p16
  obtain ⟨m, hm⟩ : ∃ m, m = C.rs[r].path.length := ⟨_, rfl⟩
  rw [hA2, ← hm] at d2
  rw [hA3] at p12
  have i1 : (0 : Int) ≤ (r : Int) := by omega
  have i2 : (r : Int) < (C.rs.length : Int) := by omega
  have i3 : (0 : Int) ≤ (s : Int) := by omega
  have i4 : (s : Int) < (C.l.length : Int) := by omega
  have i5 : (0 : Int) ≤ (n : Int) := by omega
  have i6 : (n : Int) < (m : Int) := by omega
  have hb := (h.cok.each _ (List.getElem_mem hr)).b1
  have i7 : wrap64 ((m : Int) - 1) = (n : Int) := by rw [IntWalk.wrap64_in _ ⟨by omega, by omega⟩]; omega
  have HF : Hid (C.rs[r].path.length = n + 1) := Lib.hid hn
  generalize C.l[s].line = x at *
  clear hA hA2 hA3 h hs hb hm
  go_enter Tryz.func208, Tryz.ntmps208
  go_wp2_with fail
  go_quiet (fail)
  go_wp2_with fail
  go_ret
  exact ⟨rfl, (Fr.refl _ _).drewN nq⟩
end Go.Proofs.YtginfnbdnkgjbaaGreat.Nk
/- A cycle's lists: the sections of a route's path; what of its overlap it owns. -/
namespace Go.Proofs.YtginfnbdnkgjbaaGreat.Nk
open Go.RowKit Lk

theorem path_snoc (p : List St) (k : Nat) (h : k < p.length) : (p.take (k + 1)).map St.sec = (p.take k).map St.sec ++ [p[k].sec] := by
  rw [List.take_succ_eq_append_getElem h, List.map_append]
  rfl
set_option maxHeartbeats 4000000 in
set_option maxRecDepth 100000 in
theorem path_any {w0 w : World} {sb : Nat} {V : Vm} {K : Km} {C : Cm} {rec : Bool} (h : Cy w0 w sb V K C rec) {r : Nat} (hr : r < C.rs.length) :
    Calls Tryz.prog 167 #[.pointer (some ⟨sb, 0, none⟩), .int .i64 (r : Int)] w (Mv.NmsE w.heap.size (pathL C.rs[r].rt) w) := by
  obtain ⟨_, _, _, _, p16, _⟩ := h.plan9
  obtain ⟨g, o, hA, _, _, d2, _⟩ := rd_ro h.cok.rts hr
  have hp := (h.cok.each _ (List.getElem_mem hr)).path
  have hb := (h.cok.each _ (List.getElem_mem hr)).b1
  rw [hA] at p16
  have i1 : (0 : Int) ≤ (r : Int) := by omega
  have i2 : (r : Int) < (C.rs.length : Int) := by omega
  generalize hT : pathL C.rs[r].rt = T
  have hT : C.rs[r].path.map St.sec = T := hT
  generalize C.rs[r] = q at *
  obtain ⟨en, ex, a1, q1, path, a2, q2, flank, a3, q3, over, sh⟩ := q
  dsimp only at *
  have HP := Lib.hid hp
  have HT := Lib.hid hT
  generalize hzb : w.heap.size = zb at *
  have HZ := Lib.hid hzb
  clear hA hp h hr hT hzb
  go_enter Tryz.func167, Tryz.ntmps167
  go_wp2_with fail
  clear p16 d2 i1 i2
  go_loopg [5, 7, 18] path.length (fun gh v5 _ i wr => ∃ k : Nat, k ≤ path.length ∧ gh = path.length - k ∧ i = .int .i64 (k : Nat) ∧ Mv.Nms zb ((path.take k).map St.sec) wr v5 ∧ Fr (fun _ => False) w wr)
  case atStart => exact ⟨0, Nat.zero_le _, rfl, rfl, Mv.Nms.nil _ _, Fr.refl _ _⟩
  case round =>
    obtain ⟨k, hk, rfl, rfl, ⟨A, c, rfl, hown⟩, f⟩ := hrel
    by_cases hlt : k < path.length
    · obtain ⟨gp, op, ea, x0, x1, x2⟩ := rd_st (HP.out.fr f fun _ _ => id) hlt
      subst ea
      have hsn := Lib.hid (path_snoc path k hlt)
      have hle : ((path.take k).map St.sec).length ≤ k := by rw [List.length_map, List.length_take]; omega
      generalize path[k] = y at *
      obtain ⟨y0, y1, y2⟩ := y
      dsimp only at x0 x1 x2
      generalize (path.take k).map St.sec = L at *
      have i1 : (0 : Int) ≤ (k : Int) := by omega
      have i2 : (k : Int) < (path.length : Int) := by omega
      have HL := Lib.hid hle
      have HK := Lib.hid hlt
      have HF := Lib.hid f
      have HO := Lib.hid hown
      have HB := Lib.hid hb
      clear hle hlt hk f hown hb
      go_upto_region 5 with fail
      have f2 := HF.out.alloc (.cells #[.int .i64 y0, .int .i64 y1, .int .i64 y2] 76)
      have hown2 := wide_fr HO.out ((Fr.refl (fun _ => False) wr).alloc (.cells #[.int .i64 y0, .int .i64 y1, .int .i64 y2] 76)) fun _ _ => id
      have hbx := (Is.new wr 76 #[.int .i64 y0, .int .i64 y1, .int .i64 y2]).cell 0
      generalize wr.alloc _ = w2 at *
      generalize wr.heap.size = zs at *
      obtain ⟨i0, hi0, hz0, hz1, hz2⟩ := info_parts Tryz.infoI
      have hfs := f2.size
      have hzz := HZ.out
      have hll := HL.out
      have hkk := HK.out
      have hbb := HB.out
      have hal := hown2.alloc (.cells #[.int .i64 y0] 3)
      clear x0 x1 x2 i1 i2
      go_wp2_with (at_builtin; refine wpList_append_wide _ rfl (.tmp 22) (.tmp 25) 25 rfl zb 3 i0 _ 1 8 Tryz.underlying25 hi0 hz0 hz1 hz2 rfl (by decide) (.slice A L.length c) L.length (L.map (Value.int .i64)) rfl hal (some ⟨w2.heap.size, 0, none⟩) 1 1 [.int .i64 y0] rfl rfl (lit_rd w2 _ _) (by simp [Value.oneCell']) (by unfold maxLen; omega) (by omega) (by have := (w2.size_alloc (.cells #[.int .i64 y0] 3)); omega) ?_)
      intro v5 w5 hown5 hg5 _
      have hlo := World.ownsRow.lt hal
      have f5 : Fr (fun _ => False) w w5 := (f2.alloc (.cells #[.int .i64 y0] 3)).grown hg5 fun q hq => .inr (by have := (hlo q hq).1; omega)
      obtain ⟨A5, c5', rfl, _, _, _, _⟩ := wide_form hown5
      have HN : Hid (Mv.Nms zb ((path.take (k + 1)).map St.sec) w5 (.slice A5 (L.length + 1) c5')) := Lib.hid (by rw [hsn.out]; exact ⟨A5, c5', by simp, by simp only [List.length_append, List.length_cons, List.length_nil, List.map_append, List.map_cons, List.map_nil]; exact hown5⟩)
      clear hown2 hown5 hg5 hlo hal f2 hbx hi0 hz0 hz1 hz2
      go_wp2_with fail
      go_roundg (path.length - (k + 1))
      case measure => omega
      case rel => exact ⟨k + 1, by omega, rfl, by go_num, HN.out, f5⟩
    · have hk' : path.length = k := by omega
      have HN : Hid (Mv.Nms zb T wr (.slice A ((path.take k).map St.sec).length c)) := Lib.hid (by rw [← HT.out]; rw [List.take_of_length_le (by omega)] at hown ⊢; exact ⟨A, c, rfl, hown⟩)
      generalize (path.take k).map St.sec = L at *
      have HK := Lib.hid hk'
      have HF := Lib.hid f
      clear hown hk' hk f
      go_wp2_with fail
      go_ret
      exact ⟨_, rfl, HN.out, HF.out⟩
set_option maxHeartbeats 4000000 in
set_option maxRecDepth 100000 in
theorem overlap_any {w0 w : World} {sb : Nat} {V : Vm} {K : Km} {C : Cm} {rec : Bool} (h : Cy w0 w sb V K C rec) {r : Nat} (hr : r < C.rs.length) (hr9 : r < 1000) (hov : ∀ s ∈ C.rs[r].over, 0 ≤ s ∧ s < K.own.length) :
    Calls Tryz.prog 168 #[.pointer (some ⟨sb, 0, none⟩), .int .i64 (r : Int)] w (Mv.NmsE w.heap.size (overK K.kp C.rs[r].rt r) w) := by
  obtain ⟨_, _, _, _, p16, _⟩ := h.plan9
  obtain ⟨g, o, hA, _, _, _, _, d4, _⟩ := rd_ro h.cok.rts hr
  have hp := (h.cok.each _ (List.getElem_mem hr)).over
  have hb := (h.cok.each _ (List.getElem_mem hr)).b3
  rw [hA] at p16
  have i1 : (0 : Int) ≤ (r : Int) := by omega
  have i2 : (r : Int) < (C.rs.length : Int) := by omega
  generalize hT : overK K.kp C.rs[r].rt r = T
  have hT : C.rs[r].over.filter (fun s => decide (ownAt K.own s = (r : Int) + 1)) = T := hT
  have KO := fun W (f : Fr (fun _ => False) w W) (s : Nat) (hs : s < K.own.length) => owns_any (h.fr f) hr9 hs
  generalize C.rs[r] = q at *
  obtain ⟨en, ex, a1, q1, path, a2, q2, flank, a3, q3, over, sh⟩ := q
  dsimp only at *
  have HP := Lib.hid hp
  have HT := Lib.hid hT
  generalize hzb : w.heap.size = zb at *
  have HZ := Lib.hid hzb
  have HOV := Lib.hid hov
  have HKO := Lib.hid KO
  clear hA hp h hr hr9 hT hzb hov KO
  go_enter Tryz.func168, Tryz.ntmps168
  go_wp2_with fail
  clear p16 d4 i1 i2
  go_loopg [5, 7, 18] over.length (fun gh v5 _ i wr => ∃ k : Nat, k ≤ over.length ∧ gh = over.length - k ∧ i = .int .i64 (k : Nat) ∧ Mv.Nms zb ((over.take k).filter (fun s => decide (ownAt K.own s = (r : Int) + 1))) wr v5 ∧ Fr (fun _ => False) w wr)
  case atStart => exact ⟨0, Nat.zero_le _, rfl, rfl, Mv.Nms.nil _ _, Fr.refl _ _⟩
  case round =>
    obtain ⟨k, hk, rfl, rfl, ⟨A, c, rfl, hown⟩, f⟩ := hrel
    by_cases hlt : k < over.length
    · obtain ⟨gp, op, ea, x0⟩ := rd_int (HP.out.fr f fun _ _ => id) hlt
      subst ea
      have hx := HOV.out over[k] (List.getElem_mem hlt)
      have hle : ((over.take k).filter (fun s => decide (ownAt K.own s = (r : Int) + 1))).length ≤ k := Nat.le_trans (List.length_filter_le ..) (by rw [List.length_take]; omega)
      have hsn := List.take_succ_eq_append_getElem hlt
      generalize over[k] = x at *
      obtain ⟨s, rfl⟩ := Int.eq_ofNat_of_zero_le hx.1
      have KX := HKO.out wr f s (by omega)
      have hsn2 : (over.take (k + 1)).filter (fun s => decide (ownAt K.own s = (r : Int) + 1)) = (over.take k).filter (fun s => decide (ownAt K.own s = (r : Int) + 1)) ++ (if decide (ownAt K.own (s : Int) = (r : Int) + 1) = true then [(s : Int)] else []) := by
        simp only [hsn, List.filter_append, List.filter_cons, List.filter_nil]
      generalize decide (ownAt K.own (s : Int) = (r : Int) + 1) = b at *
      generalize (over.take k).filter (fun s => decide (ownAt K.own s = (r : Int) + 1)) = L at *
      have i1 : (0 : Int) ≤ (k : Int) := by omega
      have i2 : (k : Int) < (over.length : Int) := by omega
      have HL := Lib.hid hle
      have HK := Lib.hid hlt
      have HF := Lib.hid f
      have HO := Lib.hid hown
      have HB := Lib.hid hb
      clear hle hlt hk f hown hb hsn hx
      cases b
      · have hsn := Lib.hid (hsn2.trans (by rw [if_neg (by decide), List.append_nil]))
        clear hsn2
        go_wp2_with fail
        refine KX.mono ?_
        rintro e w2 ⟨rfl, rfl⟩
        clear KX
        have hkk := HK.out
        have hbb := HB.out
        go_wp2_with fail
        go_roundg (over.length - (k + 1))
        case measure => omega
        case rel => exact ⟨k + 1, by omega, rfl, by go_num, by rw [hsn.out]; exact ⟨A, c, rfl, HO.out⟩, HF.out⟩
      · have hsn := Lib.hid (hsn2.trans (by rw [if_pos rfl]))
        clear hsn2
        go_wp2_with fail
        refine KX.mono ?_
        rintro e w2 ⟨rfl, rfl⟩
        clear KX x0
        go_upto_region 6 with fail
        obtain ⟨i0, hi0, hz0, hz1, hz2⟩ := info_parts Tryz.infoI
        have hfs := HF.out.size
        have hzz := HZ.out
        have hll := HL.out
        have hkk := HK.out
        have hbb := HB.out
        have hal := HO.out.alloc (.cells #[.int .i64 (s : Int)] 3)
        clear i1 i2
        go_wp2_with (at_builtin; refine wpList_append_wide _ rfl (.tmp 26) (.tmp 28) 25 rfl zb 3 i0 _ 1 8 Tryz.underlying25 hi0 hz0 hz1 hz2 rfl (by decide) (.slice A L.length c) L.length (L.map (Value.int .i64)) rfl hal (some ⟨wr.heap.size, 0, none⟩) 1 1 [.int .i64 (s : Int)] rfl rfl (lit_rd wr _ _) (by simp [Value.oneCell']) (by unfold maxLen; omega) (by omega) (by have := (wr.size_alloc (.cells #[.int .i64 (s : Int)] 3)); omega) ?_)
        intro v5 w5 hown5 hg5 _
        have hlo := World.ownsRow.lt hal
        have f5 : Fr (fun _ => False) w w5 := (HF.out.alloc (.cells #[.int .i64 (s : Int)] 3)).grown hg5 fun q hq => .inr (by have := (hlo q hq).1; omega)
        obtain ⟨A5, c5', rfl, _, _, _, _⟩ := wide_form hown5
        have HN : Hid (Mv.Nms zb ((over.take (k + 1)).filter (fun s => decide (ownAt K.own s = (r : Int) + 1))) w5 (.slice A5 (L.length + 1) c5')) := Lib.hid (by rw [hsn.out]; exact ⟨A5, c5', by simp, by simp only [List.length_append, List.length_cons, List.length_nil, List.map_append, List.map_cons, List.map_nil]; exact hown5⟩)
        clear hown5 hg5 hlo hal hi0 hz0 hz1 hz2
        go_wp2_with fail
        go_roundg (over.length - (k + 1))
        case measure => omega
        case rel => exact ⟨k + 1, by omega, rfl, by go_num, HN.out, f5⟩
    · have HN : Hid (Mv.Nms zb T wr (.slice A ((over.take k).filter (fun s => decide (ownAt K.own s = (r : Int) + 1))).length c)) := Lib.hid (by rw [← HT.out]; rw [List.take_of_length_le (by omega)] at hown ⊢; exact ⟨A, c, rfl, hown⟩)
      generalize (over.take k).filter (fun s => decide (ownAt K.own s = (r : Int) + 1)) = L at *
      have hk' : over.length = k := by omega
      have HK := Lib.hid hk'
      have HF := Lib.hid f
      clear hown hk' hk f
      go_wp2_with fail
      go_ret
      exact ⟨_, rfl, HN.out, HF.out⟩
end Go.Proofs.YtginfnbdnkgjbaaGreat.Nk
/- A cycle's conditions: do the points stand, are the crossings closed, was the line granted. -/
namespace Go.Proofs.YtginfnbdnkgjbaaGreat.Nk
open Go.RowKit Lk

theorem lnAt_nat {k : Kp} {j : Nat} (hj : j < k.lns.length) : lnAt k j = k.lns[j] := by
  unfold lnAt
  rw [Int.toNat_natCast, List.getD_eq_getElem?_getD, List.getElem?_eq_getElem hj]; rfl
theorem ptAt_nat {k : Kp} {j : Nat} (hj : j < k.pts.length) : ptAt k j = k.pts[j] := by
  unfold ptAt
  rw [Int.toNat_natCast, List.getD_eq_getElem?_getD, List.getElem?_eq_getElem hj]; rfl
theorem crAt_nat {k : Kp} {j : Nat} (hj : j < k.crs.length) : crAt k j = k.crs[j] := by
  unfold crAt
  rw [Int.toNat_natCast, List.getD_eq_getElem?_getD, List.getElem?_eq_getElem hj]; rfl
set_option maxRecDepth 100000 in
set_option maxHeartbeats 2000000 in
theorem granted_any {w0 w : World} {sb : Nat} {V : Vm} {K : Km} {C : Cm} {rec : Bool} (h : Cy w0 w sb V K C rec) {r : Nat} {m : Nat} (hm : m < K.lns.length)
    (KL : Calls Tryz.prog 208 #[.pointer (some ⟨sb, 0, none⟩), .int .i64 (r : Int)] w fun e w' => e = .returned (.int .i64 (m : Int)) ∧ Fr (fun _ => False) w w') :
    Calls Tryz.prog 172 #[.pointer (some ⟨sb, 0, none⟩), .int .i64 (r : Int)] w fun e w' => e = .returned (.bool (decide ((m : Int) = 0) || decide ((lnAt K.kp m).pg = (lnAt K.kp m).ask))) ∧ Fr (fun _ => False) w w' := by
  rw [lnAt_nat (k := K.kp) hm]
  generalize hT : (decide ((m : Int) = 0) || decide ((K.kp.lns[m]'hm).pg = (K.kp.lns[m]'hm).ask)) = T
  have HT := Lib.hid hT
  have HH := Lib.hid h
  clear h hT
  go_enter Tryz.func172, Tryz.ntmps172
  go_wp2_with fail
  refine KL.mono ?_
  clear KL
  rintro e w1 ⟨rfl, f1⟩
  obtain ⟨g, hA, c0, _, c6, _⟩ := (HH.out.fr f1).at5 hm
  have c9 : w1.cell? ⟨sb, 9, none⟩ = some (.slice K.A5 K.lns.length K.c5) := (HH.out.fr f1).is.cell 9
  rw [hA] at c9
  have i1 : (0 : Int) ≤ (m : Int) := by omega
  have i2 : (m : Int) < (K.lns.length : Int) := by omega
  have HF := Lib.hid f1
  clear hA f1
  by_cases h0 : (m : Int) = 0
  · have e0 : ((m : Int) == 0) = true := by simpa using h0
    have H0 := Lib.hid h0
    clear h0
    go_wp2_with fail
    go_quiet (fail)
    go_wp2_with fail
    go_ret
    exact ⟨by rw [← HT.out, decide_eq_true H0.out, Bool.true_or]; rfl, HF.out.drewN nq⟩
  · have e0 : ((m : Int) == 0) = false := by simpa using h0
    have H0 := Lib.hid h0
    clear h0
    have HT : Hid ((decide ((m : Int) = 0) || decide ((K.lns[m]'hm).pg = (K.lns[m]'hm).ask)) = T) := Lib.hid HT.out
    generalize K.lns[m] = y at *
    obtain ⟨a, b, c, d, e, f, pg, s⟩ := y
    dsimp only at c0 c6 HT
    generalize hd : (pg == a) = t
    have HD := Lib.hid hd
    clear hd
    go_wp2_with fail
    go_quiet (fail)
    go_wp2_with fail
    go_ret
    exact ⟨by rw [← HT.out, decide_eq_false H0.out, Bool.false_or]; rfl, HF.out.drewN nq⟩
set_option maxRecDepth 100000 in
set_option maxHeartbeats 4000000 in
theorem closed_any {w0 w : World} {sb : Nat} {V : Vm} {K : Km} {C : Cm} {rec : Bool} (h : Cy w0 w sb V K C rec) {A : Option Addr} {c : Nat} (l : List Int) (hA : Rd w A (l.map (Value.int .i64))) (hl : l.length ≤ 9223372036854775807) (hs : ∀ s ∈ l, 0 ≤ s ∧ s < K.crs.length) (hv : K.crs.length = V.shut.length) :
    Calls Tryz.prog 170 #[.pointer (some ⟨sb, 0, none⟩), .slice A l.length c] w fun e w' => e = .returned (.bool (closedB V.vp C.tm.age K.kp l)) ∧ Fr (fun _ => False) w w' := by
  unfold closedB
  generalize hF : (fun n => prB V.vp.shut n (crAt K.kp n) C.tm.age) = F
  generalize hT : l.all F = T
  have HT := Lib.hid hT
  have HA := Lib.hid hA
  have HH := Lib.hid h
  clear hT hA h
  go_enter Tryz.func170, Tryz.ntmps170
  go_wp2_with fail
  go_loopg [6, 9] l.length (fun gi _ v9 wr => ∃ (k : Nat), k ≤ l.length ∧ gi = l.length - k ∧ v9 = .int .i64 (k : Nat) ∧ (l.drop k).all F = T ∧ Fr (fun _ => False) w wr)
  case atStart => exact ⟨0, Nat.zero_le _, rfl, rfl, HT.out, Fr.refl _ _⟩
  case round =>
    clear HT
    obtain ⟨k, hk, rfl, rfl, hT, f⟩ := hrel
    by_cases hlt : k < l.length
    · obtain ⟨g, p, hA1, q0⟩ := rd_int (HA.out.fr f fun _ _ => id) hlt
      have hx := hs l[k] (List.getElem_mem hlt)
      rw [List.drop_eq_getElem_cons hlt, List.all_cons] at hT
      generalize hR : (l.drop (k + 1)).all F = R at hT
      have HR := Lib.hid hR
      clear hR
      generalize l[k] = x at *
      obtain ⟨j, rfl⟩ := Int.eq_ofNat_of_zero_le hx.1
      have hj : j < K.crs.length := by omega
      obtain ⟨gc, hC, d0, d1, _⟩ := (HH.out.fr f).at4 hj
      have KP := fun (W : World) (f2 : Fr (fun _ => False) wr W) => crossingProved_any (age := C.tm.age) ((HH.out.fr f).vok.fr f2) (show j < V.shut.length by omega) K.crs[j]
      have hFj : F (j : Int) = prB V.shut j K.crs[j] C.tm.age := by
        rw [← hF]
        show prB V.shut j (crAt K.kp j) C.tm.age = _
        rw [crAt_nat (k := K.kp) hj]
        rfl
      rw [hFj] at hT
      have c8 : wr.cell? ⟨sb, 8, none⟩ = some (.slice K.A4 K.crs.length K.c4) := (HH.out.fr f).is.cell 8
      obtain ⟨c0, c1, c2, c3, c4⟩ := (HH.out.fr f).eye5
      rw [hC] at c8
      have i1 : (0 : Int) ≤ (k : Int) := by omega
      have i2 : (k : Int) < (l.length : Int) := by omega
      have i3 : (0 : Int) ≤ (j : Int) := by omega
      have i4 : (j : Int) < (K.crs.length : Int) := by omega
      generalize K.crs[j] = y at *
      obtain ⟨mc, mo⟩ := y
      dsimp only at d0 d1
      generalize prB V.shut j ⟨mc, mo⟩ C.tm.age = b at *
      have HK := Lib.hid hlt
      have HFW := Lib.hid f
      have HKP := Lib.hid KP
      rw [hA1]
      have HA1 := Lib.hid hA1
      have HT := Lib.hid hT
      clear hA1 hC hs hx hlt hk f hj KP hF hFj hT hv
      go_upto_region 4 with fail
      have c0 := cell_fro c0
      have c1 := cell_fro c1
      have c2 := cell_fro c2
      have c3 := cell_fro c3
      have c4 := cell_fro c4
      have c8 := cell_fro c8
      have d0 := cell_fro d0
      have d1 := cell_fro d1
      clear q0
      have HKP2 := fun (u : Fro wr) => HKP.out u.w u.f
      unfold eyeArr at HKP2
      refine region_fro (by kernel_rfl) (by kernel_rfl) ?_
      repeat (go_big_quiet_step (first | (go_at_call 207; with_reducible exact call_fro (HKP2 _))))
      refine wpQuiet_nil ?_
      rintro w3 ⟨⟨w9, f3⟩, hww⟩
      replace hww : w3 = w9 := hww
      subst hww
      clear c0 c1 c2 c3 c4 c8 d0 d1 HKP2
      cases b
      · have hT := HT.out
        rw [Bool.false_and] at hT
        subst hT
        go_wp2_with fail
        go_ret
        exact ⟨rfl, fr_nil HFW.out f3⟩
      · have hT := HT.out
        rw [Bool.true_and] at hT
        have HT := Lib.hid hT
        have HF3 := Lib.hid f3
        clear hT f3
        go_wp2_with fail
        rw [← HA1.out]
        go_roundg (l.length - (k + 1))
        case measure => have := HK.out; omega
        case rel => exact ⟨k + 1, by have := HK.out; omega, rfl, by go_num, HR.out.trans HT.out, fr_nil HFW.out HF3.out⟩
    · rw [List.drop_eq_nil_of_le (by omega)] at hT
      have hT : true = T := hT
      subst hT
      go_wp2_with fail
      go_ret
      exact ⟨rfl, f⟩
end Go.Proofs.YtginfnbdnkgjbaaGreat.Nk
/- Do the points stand, each commanded and proved? -/
namespace Go.Proofs.YtginfnbdnkgjbaaGreat.Nk
open Go.RowKit Lk

set_option maxRecDepth 100000 in
set_option maxHeartbeats 4000000 in
theorem stand_any {w0 w : World} {sb : Nat} {V : Vm} {K : Km} {C : Cm} {rec : Bool} (h : Cy w0 w sb V K C rec) {A : Option Addr} {c : Nat} (l : List Nd) (hA : Rd w A (cellsN l)) (hl : l.length ≤ 9223372036854775807) (hs : ∀ s ∈ l, 0 ≤ s.sec ∧ s.sec < K.pts.length) (hv : K.pts.length = V.pos.length) :
    Calls Tryz.prog 169 #[.pointer (some ⟨sb, 0, none⟩), .slice A l.length c] w fun e w' => e = .returned (.bool (standB V.vp C.tm.age K.kp l)) ∧ Fr (fun _ => False) w w' := by
  unfold standB
  generalize hF : (fun n : Nd => decide ((ptAt K.kp n.sec).cmd = n.pos) && prB V.vp.pos n.sec (ptAt K.kp n.sec) C.tm.age) = F
  generalize hT : l.all F = T
  have HT := Lib.hid hT
  have HA := Lib.hid hA
  have HH := Lib.hid h
  clear hT hA h
  go_enter Tryz.func169, Tryz.ntmps169
  go_wp2_with fail
  go_loopg [6, 7, 10] l.length (fun gi _ _ v9 wr => ∃ (k : Nat), k ≤ l.length ∧ gi = l.length - k ∧ v9 = .int .i64 (k : Nat) ∧ (l.drop k).all F = T ∧ Fr (fun _ => False) w wr)
  case atStart => exact ⟨0, Nat.zero_le _, rfl, rfl, HT.out, Fr.refl _ _⟩
  case round =>
    clear HT
    obtain ⟨k, hk, rfl, rfl, hT, f⟩ := hrel
    by_cases hlt : k < l.length
    · obtain ⟨g, p, hA1, q0, q1⟩ := rd_nd (HA.out.fr f fun _ _ => id) hlt
      have hx := hs l[k] (List.getElem_mem hlt)
      rw [List.drop_eq_getElem_cons hlt, List.all_cons] at hT
      generalize hR : (l.drop (k + 1)).all F = R at hT
      have HR := Lib.hid hR
      clear hR
      generalize l[k] = x at *
      obtain ⟨x0, po⟩ := x
      dsimp only at hx q0 q1
      obtain ⟨j, rfl⟩ := Int.eq_ofNat_of_zero_le hx.1
      have hj : j < K.pts.length := by omega
      have HH1 := Lib.hid (HH.out.fr (f.alloc (.cells #[.int .i64 (j : Int), .int .i64 po] 109)))
      obtain ⟨gc, hC, d0, d1⟩ := HH1.out.at3 hj
      have KP := fun (W : World) (f2 : Fr (fun _ => False) (wr.alloc (.cells #[.int .i64 (j : Int), .int .i64 po] 109)) W) => pointProved_any (age := C.tm.age) (HH1.out.vok.fr f2) (show j < V.pos.length by omega) K.pts[j]
      have hFj : F ⟨(j : Int), po⟩ = (decide (K.pts[j].cmd = po) && prB V.pos j K.pts[j] C.tm.age) := by
        rw [← hF]
        show (decide ((ptAt K.kp j).cmd = po) && prB V.pos j (ptAt K.kp j) C.tm.age) = _
        rw [ptAt_nat (k := K.kp) hj]
        rfl
      rw [hFj] at hT
      have c7 : (wr.alloc (.cells #[.int .i64 (j : Int), .int .i64 po] 109)).cell? ⟨sb, 7, none⟩ = some (.slice K.A3 K.pts.length K.c3) := HH1.out.is.cell 7
      obtain ⟨c0, c1, c2, c3, c4⟩ := HH1.out.eye5
      rw [hC] at c7
      have i1 : (0 : Int) ≤ (k : Int) := by omega
      have i2 : (k : Int) < (l.length : Int) := by omega
      have i3 : (0 : Int) ≤ (j : Int) := by omega
      have i4 : (j : Int) < (K.pts.length : Int) := by omega
      generalize K.pts[j] = y at *
      obtain ⟨mc, mo⟩ := y
      dsimp only at d0 d1 hT
      generalize prB V.pos j ⟨mc, mo⟩ C.tm.age = b at *
      have n0 := (Is.new wr 109 #[.int .i64 (j : Int), .int .i64 po]).cell 0
      have n1 := (Is.new wr 109 #[.int .i64 (j : Int), .int .i64 po]).cell 1
      have HK := Lib.hid hlt
      have HFW := Lib.hid (f.alloc (.cells #[.int .i64 (j : Int), .int .i64 po] 109))
      have HKP := Lib.hid KP
      rw [hA1]
      have HA1 := Lib.hid hA1
      have HT := Lib.hid hT
      have HL := Lib.hid hl
      clear hA1 hC hs hx hlt hk f hj KP hF hFj hT hv
      go_upto_region 4 with fail
      clear q0 q1
      generalize hwn : wr.alloc _ = wn at *
      generalize hzn : wr.heap.size = zn at *
      have n0 : wn.cell? ⟨zn, 0, none⟩ = some (.int .i64 (j : Int)) := n0
      have n1 : wn.cell? ⟨zn, 1, none⟩ = some (.int .i64 po) := n1
      have HS : Hid (∀ W, Fr (fun _ => False) wn W → W.cell? ⟨sb, 7, none⟩ = some (.slice (some ⟨gc, 0, none⟩) K.pts.length K.c3) ∧ W.cell? ⟨gc, j * 2, none⟩ = some (.int .i64 mc) ∧ W.cell? ⟨gc, j * 2 + 1, none⟩ = some (.int .i64 mo) ∧ W.cell? ⟨zn, 0, none⟩ = some (.int .i64 (j : Int))) := Lib.hid fun W f => ⟨(f.cell (World.block_lt_of_cell? _ _ c7) id).trans c7, (f.cell (World.block_lt_of_cell? _ _ d0) id).trans d0, (f.cell (World.block_lt_of_cell? _ _ d1) id).trans d1, (f.cell (World.block_lt_of_cell? _ _ n0) id).trans n0⟩
      go_region_held3 (fun W => W.cell? ⟨sb, 7, none⟩ = some (.slice (some ⟨gc, 0, none⟩) K.pts.length K.c3) ∧ W.cell? ⟨gc, j * 2, none⟩ = some (.int .i64 mc) ∧ W.cell? ⟨gc, j * 2 + 1, none⟩ = some (.int .i64 mo) ∧ W.cell? ⟨zn, 0, none⟩ = some (.int .i64 (j : Int))) (first | exact HS.out _ (Fr.refl _ _).drew | exact HS.out _ ((Fr.refl _ _).alloc _).drew | exact HS.out _ ((Fr.refl _ _).drew.alloc _)) (first | (fail))
      rename_i hHeld
      clear hHeld HS
      have HF2 := Lib.hid ((Fr.refl (fun _ => False) wn).alloc (.cells #[.int .i64 mc, .int .i64 mo] 48)).drew
      have m0 := ((Is.new wn 48 #[.int .i64 mc, .int .i64 mo]).drew).cell 0
      have m1 := ((Is.new wn 48 #[.int .i64 mc, .int .i64 mo]).drew).cell 1
      have n0 := (HF2.out.cell (World.block_lt_of_cell? _ _ n0) id).trans n0
      have n1 := (HF2.out.cell (World.block_lt_of_cell? _ _ n1) id).trans n1
      have c0 := (HF2.out.cell (World.block_lt_of_cell? _ _ c0) id).trans c0
      have c1 := (HF2.out.cell (World.block_lt_of_cell? _ _ c1) id).trans c1
      have c2 := (HF2.out.cell (World.block_lt_of_cell? _ _ c2) id).trans c2
      have c3 := (HF2.out.cell (World.block_lt_of_cell? _ _ c3) id).trans c3
      have c4 := (HF2.out.cell (World.block_lt_of_cell? _ _ c4) id).trans c4
      clear d0 d1 c7
      generalize World.drew _ = w2 at *
      generalize wn.heap.size = zm at *
      have m0 : w2.cell? ⟨zm, 0, none⟩ = some (.int .i64 mc) := m0
      have m1 : w2.cell? ⟨zm, 1, none⟩ = some (.int .i64 mo) := m1
      have m0 := cell_fro m0
      have m1 := cell_fro m1
      have n0 := cell_fro n0
      have n1 := cell_fro n1
      have c0 := cell_fro c0
      have c1 := cell_fro c1
      have c2 := cell_fro c2
      have c3 := cell_fro c3
      have c4 := cell_fro c4
      have HKP2 := fun (u : Fro w2) => HKP.out u.w (fr_nil HF2.out u.f)
      unfold eyeArr at HKP2
      by_cases he : mc = po
      · have e0 : (mc != po) = false := by simpa using he
        have e1 : decide (mc = po) = true := by simpa using he
        have H1 := Lib.hid e1
        clear he
        go_upto_region 5 with fail
        refine region_fro (by kernel_rfl) (by kernel_rfl) ?_
        repeat (go_big_quiet_step (first | (go_at_call 206; with_reducible exact call_fro (HKP2 _))))
        refine wpQuiet_nil ?_
        rintro w3 ⟨⟨w9, f3⟩, hww⟩
        replace hww : w3 = w9 := hww
        subst hww
        clear c0 c1 c2 c3 c4 m0 m1 n0 n1 HKP2 e0 e1
        have hT := HT.out
        rw [H1.out, Bool.true_and] at hT
        cases b
        · rw [Bool.false_and] at hT
          subst hT
          go_wp2_with fail
          go_ret
          exact ⟨rfl, fr_nil HFW.out (fr_nil HF2.out f3)⟩
        · rw [Bool.true_and] at hT
          have HT := Lib.hid hT
          have HF3 := Lib.hid f3
          clear hT f3
          have hkk := HK.out
          have hll := HL.out
          go_wp2_with fail
          rw [← HA1.out]
          go_roundg (l.length - (k + 1))
          case measure => omega
          case rel => exact ⟨k + 1, by omega, rfl, by go_num, HR.out.trans HT.out, fr_nil HFW.out (fr_nil HF2.out HF3.out)⟩
      · have e0 : (mc != po) = true := by simpa using he
        have e1 : decide (mc = po) = false := by simpa using he
        have H1 := Lib.hid e1
        clear he
        go_upto_region 5 with fail
        refine region_fro (by kernel_rfl) (by kernel_rfl) ?_
        repeat (go_big_quiet_step (first | (go_at_call 206; with_reducible exact call_fro (HKP2 _))))
        refine wpQuiet_nil ?_
        rintro w3 ⟨⟨w9, f3⟩, hww⟩
        replace hww : w3 = w9 := hww
        subst hww
        clear c0 c1 c2 c3 c4 m0 m1 n0 n1 HKP2 e0 e1
        have hT := HT.out
        rw [H1.out, Bool.false_and, Bool.false_and] at hT
        subst hT
        go_wp2_with fail
        go_ret
        exact ⟨rfl, fr_nil HFW.out (fr_nil HF2.out f3)⟩
    · rw [List.drop_eq_nil_of_le (by omega)] at hT
      have hT : true = T := hT
      subst hT
      go_wp2_with fail
      go_ret
      exact ⟨rfl, f⟩
end Go.Proofs.YtginfnbdnkgjbaaGreat.Nk
/- The table of slots of XLate2, with operations that a guard lets run or not, and calls. Nothing here speaks of the program. -/
namespace Go.Proofs.YtginfnbdnkgjbaaGreat.Nk
open Go.RowKit

/-- what a slot holds where a guard lets it be written -/
def spOn (c : Bool) (s : Sp) : Sp := ⟨fun v w => c = true → s.p v w, fun v w w' h f hc => s.st v w w' (h hc) f⟩
section
variable {P : Program} {ops : Array Oper} {a : Act} {w : World} {φ : Value → World → Prop}
theorem wanted_eq {o : Oper} {g : Nat} {d : Tmp} {v : Bool} (hg : o.guard = some (g, true)) (hd : (ops[g]?).bind (·.dst) = some d) (he : a.eval (.tmp d) = .bool v) : Region.wanted o (yielded ops a.tmps) = v := by
  have : yielded ops a.tmps g = some v := by
    unfold yielded
    rw [hd]
    have he : a.tmps.getD d undef = .bool v := he
    rw [Array.getD_eq_getD_getElem?] at he
    cases e : a.tmps[d]? with
    | none => rw [e] at he; cases he
    | some x =>
      rw [e] at he
      have he : x = .bool v := he
      subst he
      simp [e]
  unfold Region.wanted
  rw [hg]
  show (yielded ops a.tmps g == some true) = v
  rw [this]
  cases v <;> rfl
theorem g_of {o : Oper} {w' : World} {u : Value} {g : Nat} {d : Tmp} {v : Bool} (hg : o.guard = some (g, true)) (hd : (ops[g]?).bind (·.dst) = some d) (he : a.eval (.tmp d) = .bool v) (hv : v = true) (h : (execOp a.eval o).run P w = .ok (.value u) w') (k : φ u w') : Oper.gives P ops o a w φ := by
  unfold Oper.gives
  rw [wanted_eq hg hd he, hv, if_pos rfl, h]
  exact k
theorem g_no {o : Oper} {g : Nat} {d : Tmp} {v : Bool} (hg : o.guard = some (g, true)) (hd : (ops[g]?).bind (·.dst) = some d) (he : a.eval (.tmp d) = .bool v) (hv : v = false) (k : φ undef w) : Oper.gives P ops o a w φ := by
  unfold Oper.gives
  rw [wanted_eq hg hd he, hv, if_neg (by decide)]
  exact k
theorem g_call {d : Option Tmp} {f : FuncId} {xs : Array Operand} {ats : Array TypeId} {ty : TypeId} {pos : String} {af : Array Edge} {gd : Option (Nat × Bool)} {vs : Array Value} (hw : Region.wanted ⟨d, .call { callee := .value (.func f), args := xs, argTypes := ats }, ty, pos, af, gd⟩ (yielded ops a.tmps) = true)
    (he : ∀ args w, (callFunc f args).run P w = .ok (.enter f args) w) (hx : #[] ++ xs.map a.eval ++ #[] = vs) (k : Calls P f vs w fun e w'' => ∃ r, e = .returned r ∧ φ r w'') : Oper.gives P ops ⟨d, .call { callee := .value (.func f), args := xs, argTypes := ats }, ty, pos, af, gd⟩ a w φ := by
  unfold Oper.gives
  rw [if_pos hw, execOp_call_go, hx, he]
  exact k
end
theorem region_late {P : Program} {ops : Array Oper} {Q : Exit → Act → World → Prop} {id : Nat} {a0 : Act} {w0 : World} (m : Nat) (written : List Nat) (tbl : List (Nat × Sp)) (hm : P.follows .mixedOrders = true)
    (hchk : tidy .any ops a0.tmps.size = true) (hlate : lateB .any ops m = true) (hmn : m ≤ ops.size) (hw1 : ops.toList.all (fun o => match o.dst with | some d => written.contains d | none => true) = true) (hw2 : written.all (fun t => ops.toList.any fun o => o.dst == some t) = true)
    (hw3 : ((List.range ops.size).all fun i => decide (i < m) || ((ops[i]?).bind (·.dst)).isNone) = true)
    (hstep : ∀ (i : Nat) (o : Oper), ops[i]? = some o → i < m → ∀ a w, Fr (fun _ => False) w0.drew w → (∀ t, t ∈ o.looksAt ops → holdsL written tbl a0 t (a.eval (.tmp t)) w) → Oper.gives P ops o a w fun v w' => Fr (fun _ => False) w w' ∧ ∀ d, o.dst = some d → (sp tbl d).p v w')
    (hend : ∀ val w, Fr (fun _ => False) w0.drew w → (∀ t ∈ written, (sp tbl t).p (val t) w) → Tail P ops Q (ops.size - m) m { tmps := laidL written val a0.tmps, defers := a0.defers } w) : (Code.region id ops true).wp P Q a0 w0 :=
  region_lateJ m written tbl (fun _ _ _ => True) trivial hm hchk hlate hmn hw1 hw2 hw3 (fun i o ho him _ a w _ _ _ _ hf _ _ hl => givesL_mono (hstep i o ho him a w hf hl) fun _ _ ⟨h1, h2⟩ => ⟨h1, trivial, h2⟩) fun val _ w _ hf _ hT => hend val w hf hT

theorem putL' {tbl : List (Nat × Sp)} {d : Nat} {v : Value} {w w' : World} (f : Fr (fun _ => False) w w') (h : (sp tbl d).p v w') : Fr (fun _ => False) w w' ∧ ∀ d', some d = some d' → (sp tbl d').p v w' :=
  ⟨f, fun d' e => by injection e with e; subst e; exact h⟩
end Go.Proofs.YtginfnbdnkgjbaaGreat.Nk
/- Is a route ready: the program's whole answer (written by gen/ready.py). -/
namespace Go.Proofs.YtginfnbdnkgjbaaGreat.Nk
open Go.RowKit Lk

def spNms (l : List Int) : Sp := ⟨fun v w => ∃ A c, v = .slice A l.length c ∧ Rd w A (l.map (Value.int .i64)), fun _ _ _ ⟨A, c, e, r⟩ f => ⟨A, c, e, r.fr f fun _ _ => id⟩⟩
def spNds (l : List Nd) : Sp := ⟨fun v w => ∃ A c, v = .slice A l.length c ∧ Rd w A (cellsN l), fun _ _ _ ⟨A, c, e, r⟩ f => ⟨A, c, e, r.fr f fun _ _ => id⟩⟩
theorem en_path (args : Array Value) (w : World) : (callFunc 167 args).run Tryz.prog w = .ok (.enter 167 args) w := by
  have h := Tryz.func167
  go_simp
theorem en_clear (args : Array Value) (w : World) : (callFunc 166 args).run Tryz.prog w = .ok (.enter 166 args) w := by
  have h := Tryz.func166
  go_simp
theorem en_overlap (args : Array Value) (w : World) : (callFunc 168 args).run Tryz.prog w = .ok (.enter 168 args) w := by
  have h := Tryz.func168
  go_simp
theorem en_needs (args : Array Value) (w : World) : (callFunc 149 args).run Tryz.prog w = .ok (.enter 149 args) w := by
  have h := Tryz.func149
  go_simp
theorem en_stand (args : Array Value) (w : World) : (callFunc 169 args).run Tryz.prog w = .ok (.enter 169 args) w := by
  have h := Tryz.func169
  go_simp
theorem en_crossings (args : Array Value) (w : World) : (callFunc 151 args).run Tryz.prog w = .ok (.enter 151 args) w := by
  have h := Tryz.func151
  go_simp
theorem en_closed (args : Array Value) (w : World) : (callFunc 170 args).run Tryz.prog w = .ok (.enter 170 args) w := by
  have h := Tryz.func170
  go_simp
theorem en_lit (args : Array Value) (w : World) : (callFunc 171 args).run Tryz.prog w = .ok (.enter 171 args) w := by
  have h := Tryz.func171
  go_simp
theorem en_granted (args : Array Value) (w : World) : (callFunc 172 args).run Tryz.prog w = .ok (.enter 172 args) w := by
  have h := Tryz.func172
  go_simp
set_option maxRecDepth 100000 in
set_option maxHeartbeats 8000000 in
theorem ready_walk {w0 w : World} {sb : Nat} {V : Vm} {K : Km} {C : Cm} {rec : Bool} (h : Cy w0 w sb V K C rec) {r : Nat} (hr : r < C.rs.length) {L1 L2 L4 : List Int} {L3 : List Nd} {b1 b2 b3 b4 b5 b6 : Bool}
    (KP : ∀ W, Fr (fun _ => False) w W → Calls Tryz.prog 167 #[.pointer (some ⟨sb, 0, none⟩), .int .i64 (r : Int)] W (Mv.NmsE W.heap.size L1 W))
    (KO : ∀ W, Fr (fun _ => False) w W → Calls Tryz.prog 168 #[.pointer (some ⟨sb, 0, none⟩), .int .i64 (r : Int)] W (Mv.NmsE W.heap.size L2 W))
    (KN : ∀ W, Fr (fun _ => False) w W → Calls Tryz.prog 149 #[C.val, .int .i64 (r : Int)] W (Mv.NdsE W.heap.size L3 W))
    (KX : ∀ W, Fr (fun _ => False) w W → Calls Tryz.prog 151 #[C.val, .int .i64 (r : Int)] W (Mv.NmsE W.heap.size L4 W))
    (KCa : ∀ W, Fr (fun _ => False) w W → ∀ A c, Rd W A (L1.map (Value.int .i64)) → Calls Tryz.prog 166 #[.agg (eyeArr V C.tm.age), .slice A L1.length c] W fun e w' => e = .returned (.bool b1) ∧ Fr (fun _ => False) W w')
    (KCb : ∀ W, Fr (fun _ => False) w W → ∀ A c, Rd W A (L2.map (Value.int .i64)) → Calls Tryz.prog 166 #[.agg (eyeArr V C.tm.age), .slice A L2.length c] W fun e w' => e = .returned (.bool b2) ∧ Fr (fun _ => False) W w')
    (KS : ∀ W, Fr (fun _ => False) w W → ∀ A c, Rd W A (cellsN L3) → Calls Tryz.prog 169 #[.pointer (some ⟨sb, 0, none⟩), .slice A L3.length c] W fun e w' => e = .returned (.bool b3) ∧ Fr (fun _ => False) W w')
    (KL : ∀ W, Fr (fun _ => False) w W → ∀ A c, Rd W A (L4.map (Value.int .i64)) → Calls Tryz.prog 170 #[.pointer (some ⟨sb, 0, none⟩), .slice A L4.length c] W fun e w' => e = .returned (.bool b4) ∧ Fr (fun _ => False) W w')
    (KI : ∀ W, Fr (fun _ => False) w W → Calls Tryz.prog 171 #[.agg (eyeArr V C.tm.age), .int .i64 C.rs[r].entry] W fun e w' => e = .returned (.bool b5) ∧ Fr (fun _ => False) W w')
    (KG : ∀ W, Fr (fun _ => False) w W → Calls Tryz.prog 172 #[.pointer (some ⟨sb, 0, none⟩), .int .i64 (r : Int)] W fun e w' => e = .returned (.bool b6) ∧ Fr (fun _ => False) W w') :
    Calls Tryz.prog 106 #[.pointer (some ⟨sb, 0, none⟩), .int .i64 (r : Int)] w fun e w' => e = .returned (.bool (b1 && b2 && b3 && b4 && b5 && b6)) ∧ Fr (fun _ => False) w w' := by
  obtain ⟨B6, D6⟩ : ∃ x : Bool, Hid (x = (b1 && b2 && b3 && b4 && b5 && b6)) := ⟨_, Lib.hid rfl⟩
  obtain ⟨B5, D5⟩ : ∃ x : Bool, Hid (x = (b1 && b2 && b3 && b4 && b5)) := ⟨_, Lib.hid rfl⟩
  obtain ⟨B4, D4⟩ : ∃ x : Bool, Hid (x = (b1 && b2 && b3 && b4)) := ⟨_, Lib.hid rfl⟩
  obtain ⟨B3, D3⟩ : ∃ x : Bool, Hid (x = (b1 && b2 && b3)) := ⟨_, Lib.hid rfl⟩
  obtain ⟨B2, D2⟩ : ∃ x : Bool, Hid (x = (b1 && b2)) := ⟨_, Lib.hid rfl⟩
  replace D6 : Hid (B6 = (B5 && b6)) := Lib.hid (by rw [D6.out, D5.out])
  replace D5 : Hid (B5 = (B4 && b5)) := Lib.hid (by rw [D5.out, D4.out])
  replace D4 : Hid (B4 = (B3 && b4)) := Lib.hid (by rw [D4.out, D3.out])
  replace D3 : Hid (B3 = (B2 && b3)) := Lib.hid (by rw [D3.out, D2.out])
  rw [← D2.out, ← D3.out, ← D4.out, ← D5.out, ← D6.out]
  obtain ⟨gr, og, hA, hen, -⟩ := rd_ro h.cok.rts hr
  generalize C.rs[r].entry = en at *
  have HH := Lib.hid h
  have HEN : Hid (∀ W, Fr (fun _ => False) w W → W.cell? ⟨gr, og + r * 6, none⟩ = some (.int .i64 en)) := Lib.hid fun W f => (f.cell (World.block_lt_of_cell? _ _ hen) id).trans hen
  have H16 : Hid (∀ W, Fr (fun _ => False) w W → W.cell? ⟨sb, 16, none⟩ = some (.slice (some ⟨gr, og, none⟩) C.rs.length C.c5)) := Lib.hid fun W f => by rw [← hA]; exact (h.fr f).is.cell 16
  have i1 : (r : Int) < (C.rs.length : Int) := by omega
  clear h hA hen hr
  go_enter Tryz.func106, Tryz.ntmps106
  go_upto_region 1 with fail
  have hf9 : Fr (fun _ => False) w w.drew := (Fr.refl _ w).drew
  refine region_late 60 [5, 6, 7, 8, 9, 10, 11, 12, 13, 14, 15, 16, 17, 18, 19, 20, 21, 22, 23, 24, 25, 26, 27, 28, 29, 30, 31, 32, 33, 34, 35, 36, 37, 38, 39, 40, 41, 42, 43, 44, 45, 46, 47, 48, 49, 50, 51, 52, 53, 54, 55, 56, 57, 58, 59, 60, 61, 62, 63, 4] [(5, .val (.pointer (some ⟨sb, 0, none⟩))), (6, .val (.pointer (some ⟨sb, 0, none⟩))), (7, .val (.pointer (some ⟨sb, 0, none⟩))), (8, .val (.agg (eyeArr V C.tm.age))), (9, .val (.pointer (some ⟨sb, 0, none⟩))), (10, .val (.int .i64 (r : Int))), (11, spNms L1), (12, .val (.bool b1)), (13, .val (.bool b1)), (14, spOn b1 (Sp.val (.pointer (some ⟨sb, 0, none⟩)))), (15, spOn b1 (Sp.val (.pointer (some ⟨sb, 0, none⟩)))), (16, spOn b1 (Sp.val (.pointer (some ⟨sb, 0, none⟩)))), (17, spOn b1 (Sp.val (.agg (eyeArr V C.tm.age)))), (18, spOn b1 (Sp.val (.pointer (some ⟨sb, 0, none⟩)))), (19, spOn b1 (Sp.val (.int .i64 (r : Int)))), (20, spOn b1 (spNms L2)), (21, spOn b1 (Sp.val (.bool b2))), (22, .val (.bool B2)), (23, .val (.bool B2)), (24, spOn B2 (Sp.val (.pointer (some ⟨sb, 0, none⟩)))), (25, spOn B2 (Sp.val (.pointer (some ⟨sb, 0, none⟩)))), (26, spOn B2 (Sp.val (.pointer (some ⟨sb, 0, none⟩)))), (27, spOn B2 (Sp.val (.pointer (some ⟨sb, 12, none⟩)))), (28, spOn B2 (Sp.val (C.val))), (29, spOn B2 (Sp.val (.int .i64 (r : Int)))), (30, spOn B2 (spNds L3)), (31, spOn B2 (Sp.val (.bool b3))), (32, .val (.bool B3)), (33, .val (.bool B3)), (34, spOn B3 (Sp.val (.pointer (some ⟨sb, 0, none⟩)))), (35, spOn B3 (Sp.val (.pointer (some ⟨sb, 0, none⟩)))), (36, spOn B3 (Sp.val (.pointer (some ⟨sb, 0, none⟩)))), (37, spOn B3 (Sp.val (.pointer (some ⟨sb, 12, none⟩)))), (38, spOn B3 (Sp.val (C.val))), (39, spOn B3 (Sp.val (.int .i64 (r : Int)))), (40, spOn B3 (spNms L4)), (41, spOn B3 (Sp.val (.bool b4))), (42, .val (.bool B4)), (43, .val (.bool B4)), (44, spOn B4 (Sp.val (.pointer (some ⟨sb, 0, none⟩)))), (45, spOn B4 (Sp.val (.pointer (some ⟨sb, 0, none⟩)))), (46, spOn B4 (Sp.val (.pointer (some ⟨sb, 0, none⟩)))), (47, spOn B4 (Sp.val (.agg (eyeArr V C.tm.age)))), (48, spOn B4 (Sp.val (.pointer (some ⟨sb, 0, none⟩)))), (49, spOn B4 (Sp.val (.pointer (some ⟨sb, 0, none⟩)))), (50, spOn B4 (Sp.val (.pointer (some ⟨sb, 12, none⟩)))), (51, spOn B4 (Sp.val (.pointer (some ⟨sb, 16, none⟩)))), (52, spOn B4 (Sp.val (.slice (some ⟨gr, og, none⟩) C.rs.length C.c5))), (53, spOn B4 (Sp.val (.int .i64 (r : Int)))), (54, spOn B4 (Sp.val (.pointer (some ⟨gr, og + r * 6, none⟩)))), (55, spOn B4 (Sp.val (.pointer (some ⟨gr, og + r * 6, none⟩)))), (56, spOn B4 (Sp.val (.int .i64 en))), (57, spOn B4 (Sp.val (.bool b5))), (58, .val (.bool B5)), (59, .val (.bool B5)), (60, spOn B5 (Sp.val (.pointer (some ⟨sb, 0, none⟩)))), (61, spOn B5 (Sp.val (.int .i64 (r : Int)))), (62, spOn B5 (Sp.val (.bool b6))), (63, .val (.bool B6)), (4, .val (.bool B6))] (by kernel_rfl) (by kernel_rfl) (by kernel_rfl) (by decide) (by kernel_rfl) (by kernel_rfl) (by kernel_rfl) ?_ ?_
  · intro i o ho him
    have hcase : i = 0 ∨ i = 1 ∨ i = 2 ∨ i = 3 ∨ i = 4 ∨ i = 5 ∨ i = 6 ∨ i = 7 ∨ i = 8 ∨ i = 9 ∨ i = 10 ∨ i = 11 ∨ i = 12 ∨ i = 13 ∨ i = 14 ∨ i = 15 ∨ i = 16 ∨ i = 17 ∨ i = 18 ∨ i = 19 ∨ i = 20 ∨ i = 21 ∨ i = 22 ∨ i = 23 ∨ i = 24 ∨ i = 25 ∨ i = 26 ∨ i = 27 ∨ i = 28 ∨ i = 29 ∨ i = 30 ∨ i = 31 ∨ i = 32 ∨ i = 33 ∨ i = 34 ∨ i = 35 ∨ i = 36 ∨ i = 37 ∨ i = 38 ∨ i = 39 ∨ i = 40 ∨ i = 41 ∨ i = 42 ∨ i = 43 ∨ i = 44 ∨ i = 45 ∨ i = 46 ∨ i = 47 ∨ i = 48 ∨ i = 49 ∨ i = 50 ∨ i = 51 ∨ i = 52 ∨ i = 53 ∨ i = 54 ∨ i = 55 ∨ i = 56 ∨ i = 57 ∨ i = 58 ∨ i = 59 := by omega
    clear him
    rcases hcase with rfl | rfl | rfl | rfl | rfl | rfl | rfl | rfl | rfl | rfl | rfl | rfl | rfl | rfl | rfl | rfl | rfl | rfl | rfl | rfl | rfl | rfl | rfl | rfl | rfl | rfl | rfl | rfl | rfl | rfl | rfl | rfl | rfl | rfl | rfl | rfl | rfl | rfl | rfl | rfl | rfl | rfl | rfl | rfl | rfl | rfl | rfl | rfl | rfl | rfl | rfl | rfl | rfl | rfl | rfl | rfl | rfl | rfl | rfl | rfl <;> (injection ho with ho; subst ho; intro a' w' hf hl)
    · have e1 : a'.eval (.tmp 0) = .pointer (some ⟨sb, 0, none⟩) := hl 0 (by decide)
      refine l_of rfl (v := .pointer (some ⟨sb, 0, none⟩)) (w' := w') (by clear hl; revert e1; generalize a'.eval = ev; intro e1; go_simp) (putL' (Fr.refl _ _) rfl)
    · have e1 : a'.eval (.tmp 5) = .pointer (some ⟨sb, 0, none⟩) := hl 5 (by decide)
      refine l_of rfl (v := .pointer (some ⟨sb, 0, none⟩)) (w' := w') (by clear hl; revert e1; generalize a'.eval = ev; intro e1; go_simp) (putL' (Fr.refl _ _) rfl)
    · have e1 : a'.eval (.tmp 6) = .pointer (some ⟨sb, 0, none⟩) := hl 6 (by decide)
      refine l_of rfl (v := .pointer (some ⟨sb, 0, none⟩)) (w' := w') (by clear hl; revert e1; generalize a'.eval = ev; intro e1; go_simp) (putL' (Fr.refl _ _) rfl)
    · have e1 : a'.eval (.tmp 7) = .pointer (some ⟨sb, 0, none⟩) := hl 7 (by decide)
      obtain ⟨c0, c1, c2, c3, c4⟩ := (HH.out.fr (hf9.trans hf fun _ _ h => h)).eye5
      refine l_of rfl (v := .agg (eyeArr V C.tm.age)) (w' := w') (by clear hl; revert e1; generalize a'.eval = ev; intro e1; go_simp; rfl) (putL' (Fr.refl _ _) rfl)
    · have e1 : a'.eval (.tmp 0) = .pointer (some ⟨sb, 0, none⟩) := hl 0 (by decide)
      refine l_of rfl (v := .pointer (some ⟨sb, 0, none⟩)) (w' := w') (by clear hl; revert e1; generalize a'.eval = ev; intro e1; go_simp) (putL' (Fr.refl _ _) rfl)
    · have e1 : a'.eval (.tmp 1) = .int .i64 (r : Int) := hl 1 (by decide)
      refine l_of rfl (v := .int .i64 (r : Int)) (w' := w') (by clear hl; revert e1; generalize a'.eval = ev; intro e1; go_simp) (putL' (Fr.refl _ _) rfl)
    · have e1 : a'.eval (.tmp 9) = .pointer (some ⟨sb, 0, none⟩) := hl 9 (by decide)
      have e2 : a'.eval (.tmp 10) = .int .i64 (r : Int) := hl 10 (by decide)
      exact g_call rfl en_path (by simp [e1, e2]) ((KP w' (hf9.trans hf fun _ _ h => h)).mono fun e w'' ⟨v, he, ⟨A, c, hv, hr⟩, f⟩ => ⟨_, he, putL' f ⟨A, c, hv, wide_rd hr⟩⟩)
    · have e1 : a'.eval (.tmp 8) = .agg (eyeArr V C.tm.age) := hl 8 (by decide)
      obtain ⟨A2, q2, e2, r2⟩ := (hl 11 (by decide) : (spNms L1).p _ _)
      exact g_call rfl en_clear (by simp [e1, e2]) ((KCa w' (hf9.trans hf fun _ _ h => h) A2 q2 r2).mono fun e w'' ⟨he, f⟩ => ⟨_, he, putL' f rfl⟩)
    · have e1 : a'.eval (.tmp 12) = .bool b1 := hl 12 (by decide)
      refine l_of rfl (v := .bool b1) (w' := w') (by clear hl; revert e1; generalize a'.eval = ev; intro e1; go_simp) (putL' (Fr.refl _ _) rfl)
    · have eg : a'.eval (.tmp 13) = .bool b1 := hl 13 (by decide)
      rcases Bool.eq_false_or_eq_true b1 with hB | hB
      rotate_left
      · exact g_no rfl rfl eg hB (putL' (Fr.refl _ _) fun h => Bool.noConfusion (hB.symm.trans h))
      have e1 : a'.eval (.tmp 0) = .pointer (some ⟨sb, 0, none⟩) := hl 0 (by decide)
      refine g_of rfl rfl eg hB (u := .pointer (some ⟨sb, 0, none⟩)) (w' := w') (by clear hl; revert e1; generalize a'.eval = ev; intro e1; go_simp) (putL' (Fr.refl _ _) (fun _ => rfl))
    · have eg : a'.eval (.tmp 13) = .bool b1 := hl 13 (by decide)
      rcases Bool.eq_false_or_eq_true b1 with hB | hB
      rotate_left
      · exact g_no rfl rfl eg hB (putL' (Fr.refl _ _) fun h => Bool.noConfusion (hB.symm.trans h))
      have e1 : a'.eval (.tmp 14) = .pointer (some ⟨sb, 0, none⟩) := (hl 14 (by decide) : (spOn b1 (Sp.val (.pointer (some ⟨sb, 0, none⟩)))).p _ _) hB
      refine g_of rfl rfl eg hB (u := .pointer (some ⟨sb, 0, none⟩)) (w' := w') (by clear hl; revert e1; generalize a'.eval = ev; intro e1; go_simp) (putL' (Fr.refl _ _) (fun _ => rfl))
    · have eg : a'.eval (.tmp 13) = .bool b1 := hl 13 (by decide)
      rcases Bool.eq_false_or_eq_true b1 with hB | hB
      rotate_left
      · exact g_no rfl rfl eg hB (putL' (Fr.refl _ _) fun h => Bool.noConfusion (hB.symm.trans h))
      have e1 : a'.eval (.tmp 15) = .pointer (some ⟨sb, 0, none⟩) := (hl 15 (by decide) : (spOn b1 (Sp.val (.pointer (some ⟨sb, 0, none⟩)))).p _ _) hB
      refine g_of rfl rfl eg hB (u := .pointer (some ⟨sb, 0, none⟩)) (w' := w') (by clear hl; revert e1; generalize a'.eval = ev; intro e1; go_simp) (putL' (Fr.refl _ _) (fun _ => rfl))
    · have eg : a'.eval (.tmp 13) = .bool b1 := hl 13 (by decide)
      rcases Bool.eq_false_or_eq_true b1 with hB | hB
      rotate_left
      · exact g_no rfl rfl eg hB (putL' (Fr.refl _ _) fun h => Bool.noConfusion (hB.symm.trans h))
      have e1 : a'.eval (.tmp 16) = .pointer (some ⟨sb, 0, none⟩) := (hl 16 (by decide) : (spOn b1 (Sp.val (.pointer (some ⟨sb, 0, none⟩)))).p _ _) hB
      obtain ⟨c0, c1, c2, c3, c4⟩ := (HH.out.fr (hf9.trans hf fun _ _ h => h)).eye5
      refine g_of rfl rfl eg hB (u := .agg (eyeArr V C.tm.age)) (w' := w') (by clear hl; revert e1; generalize a'.eval = ev; intro e1; go_simp; rfl) (putL' (Fr.refl _ _) (fun _ => rfl))
    · have eg : a'.eval (.tmp 13) = .bool b1 := hl 13 (by decide)
      rcases Bool.eq_false_or_eq_true b1 with hB | hB
      rotate_left
      · exact g_no rfl rfl eg hB (putL' (Fr.refl _ _) fun h => Bool.noConfusion (hB.symm.trans h))
      have e1 : a'.eval (.tmp 0) = .pointer (some ⟨sb, 0, none⟩) := hl 0 (by decide)
      refine g_of rfl rfl eg hB (u := .pointer (some ⟨sb, 0, none⟩)) (w' := w') (by clear hl; revert e1; generalize a'.eval = ev; intro e1; go_simp) (putL' (Fr.refl _ _) (fun _ => rfl))
    · have eg : a'.eval (.tmp 13) = .bool b1 := hl 13 (by decide)
      rcases Bool.eq_false_or_eq_true b1 with hB | hB
      rotate_left
      · exact g_no rfl rfl eg hB (putL' (Fr.refl _ _) fun h => Bool.noConfusion (hB.symm.trans h))
      have e1 : a'.eval (.tmp 1) = .int .i64 (r : Int) := hl 1 (by decide)
      refine g_of rfl rfl eg hB (u := .int .i64 (r : Int)) (w' := w') (by clear hl; revert e1; generalize a'.eval = ev; intro e1; go_simp) (putL' (Fr.refl _ _) (fun _ => rfl))
    · have eg : a'.eval (.tmp 13) = .bool b1 := hl 13 (by decide)
      rcases Bool.eq_false_or_eq_true b1 with hB | hB
      rotate_left
      · exact g_no rfl rfl eg hB (putL' (Fr.refl _ _) fun h => Bool.noConfusion (hB.symm.trans h))
      have e1 : a'.eval (.tmp 18) = .pointer (some ⟨sb, 0, none⟩) := (hl 18 (by decide) : (spOn b1 (Sp.val (.pointer (some ⟨sb, 0, none⟩)))).p _ _) hB
      have e2 : a'.eval (.tmp 19) = .int .i64 (r : Int) := (hl 19 (by decide) : (spOn b1 (Sp.val (.int .i64 (r : Int)))).p _ _) hB
      exact g_call (wanted_eq rfl rfl eg |>.trans hB) en_overlap (by simp [e1, e2]) ((KO w' (hf9.trans hf fun _ _ h => h)).mono fun e w'' ⟨v, he, ⟨A, c, hv, hr⟩, f⟩ => ⟨_, he, putL' f (fun _ => ⟨A, c, hv, wide_rd hr⟩)⟩)
    · have eg : a'.eval (.tmp 13) = .bool b1 := hl 13 (by decide)
      rcases Bool.eq_false_or_eq_true b1 with hB | hB
      rotate_left
      · exact g_no rfl rfl eg hB (putL' (Fr.refl _ _) fun h => Bool.noConfusion (hB.symm.trans h))
      have e1 : a'.eval (.tmp 17) = .agg (eyeArr V C.tm.age) := (hl 17 (by decide) : (spOn b1 (Sp.val (.agg (eyeArr V C.tm.age)))).p _ _) hB
      obtain ⟨A2, q2, e2, r2⟩ := (hl 20 (by decide) : (spOn b1 (spNms L2)).p _ _) hB
      exact g_call (wanted_eq rfl rfl eg |>.trans hB) en_clear (by simp [e1, e2]) ((KCb w' (hf9.trans hf fun _ _ h => h) A2 q2 r2).mono fun e w'' ⟨he, f⟩ => ⟨_, he, putL' f (fun _ => rfl)⟩)
    · have e1 : a'.eval (.tmp 13) = .bool b1 := hl 13 (by decide)
      rcases Bool.eq_false_or_eq_true b1 with hB | hB
      · have e2 : a'.eval (.tmp 21) = .bool b2 := (hl 21 (by decide) : (spOn b1 (Sp.val (.bool b2))).p _ _) hB
        refine l_of rfl (v := .bool b2) (w' := w') (by clear hl; rw [hB] at e1; revert e1 e2; generalize a'.eval = ev; intro e1 e2; go_simp) (putL' (Fr.refl _ _) (show Value.bool b2 = .bool B2 by rw [D2.out, hB, Bool.true_and]))
      · refine l_of rfl (v := .bool false) (w' := w') (by clear hl; rw [hB] at e1; have e2 : a'.eval (.const (.bool false)) = .bool false := rfl; revert e1 e2; generalize a'.eval = ev; intro e1 e2; go_simp) (putL' (Fr.refl _ _) (show Value.bool false = .bool B2 by rw [D2.out, hB, Bool.false_and]))
    · have e1 : a'.eval (.tmp 22) = .bool B2 := hl 22 (by decide)
      refine l_of rfl (v := .bool B2) (w' := w') (by clear hl; revert e1; generalize a'.eval = ev; intro e1; go_simp) (putL' (Fr.refl _ _) rfl)
    · have eg : a'.eval (.tmp 23) = .bool B2 := hl 23 (by decide)
      rcases Bool.eq_false_or_eq_true B2 with hB | hB
      rotate_left
      · exact g_no rfl rfl eg hB (putL' (Fr.refl _ _) fun h => Bool.noConfusion (hB.symm.trans h))
      have e1 : a'.eval (.tmp 0) = .pointer (some ⟨sb, 0, none⟩) := hl 0 (by decide)
      refine g_of rfl rfl eg hB (u := .pointer (some ⟨sb, 0, none⟩)) (w' := w') (by clear hl; revert e1; generalize a'.eval = ev; intro e1; go_simp) (putL' (Fr.refl _ _) (fun _ => rfl))
    · have eg : a'.eval (.tmp 23) = .bool B2 := hl 23 (by decide)
      rcases Bool.eq_false_or_eq_true B2 with hB | hB
      rotate_left
      · exact g_no rfl rfl eg hB (putL' (Fr.refl _ _) fun h => Bool.noConfusion (hB.symm.trans h))
      have e1 : a'.eval (.tmp 0) = .pointer (some ⟨sb, 0, none⟩) := hl 0 (by decide)
      refine g_of rfl rfl eg hB (u := .pointer (some ⟨sb, 0, none⟩)) (w' := w') (by clear hl; revert e1; generalize a'.eval = ev; intro e1; go_simp) (putL' (Fr.refl _ _) (fun _ => rfl))
    · have eg : a'.eval (.tmp 23) = .bool B2 := hl 23 (by decide)
      rcases Bool.eq_false_or_eq_true B2 with hB | hB
      rotate_left
      · exact g_no rfl rfl eg hB (putL' (Fr.refl _ _) fun h => Bool.noConfusion (hB.symm.trans h))
      have e1 : a'.eval (.tmp 25) = .pointer (some ⟨sb, 0, none⟩) := (hl 25 (by decide) : (spOn B2 (Sp.val (.pointer (some ⟨sb, 0, none⟩)))).p _ _) hB
      refine g_of rfl rfl eg hB (u := .pointer (some ⟨sb, 0, none⟩)) (w' := w') (by clear hl; revert e1; generalize a'.eval = ev; intro e1; go_simp) (putL' (Fr.refl _ _) (fun _ => rfl))
    · have eg : a'.eval (.tmp 23) = .bool B2 := hl 23 (by decide)
      rcases Bool.eq_false_or_eq_true B2 with hB | hB
      rotate_left
      · exact g_no rfl rfl eg hB (putL' (Fr.refl _ _) fun h => Bool.noConfusion (hB.symm.trans h))
      have e1 : a'.eval (.tmp 26) = .pointer (some ⟨sb, 0, none⟩) := (hl 26 (by decide) : (spOn B2 (Sp.val (.pointer (some ⟨sb, 0, none⟩)))).p _ _) hB
      refine g_of rfl rfl eg hB (u := .pointer (some ⟨sb, 12, none⟩)) (w' := w') (by clear hl; revert e1; generalize a'.eval = ev; intro e1; go_simp) (putL' (Fr.refl _ _) (fun _ => rfl))
    · have eg : a'.eval (.tmp 23) = .bool B2 := hl 23 (by decide)
      rcases Bool.eq_false_or_eq_true B2 with hB | hB
      rotate_left
      · exact g_no rfl rfl eg hB (putL' (Fr.refl _ _) fun h => Bool.noConfusion (hB.symm.trans h))
      have e1 : a'.eval (.tmp 27) = .pointer (some ⟨sb, 12, none⟩) := (hl 27 (by decide) : (spOn B2 (Sp.val (.pointer (some ⟨sb, 12, none⟩)))).p _ _) hB
      obtain ⟨c0, c1, c2, c3, c4, c5, c6, c7, c8⟩ := (HH.out.fr (hf9.trans hf fun _ _ h => h)).plan9
      refine g_of rfl rfl eg hB (u := C.val) (w' := w') (by clear hl; revert e1; generalize a'.eval = ev; intro e1; go_simp; rfl) (putL' (Fr.refl _ _) (fun _ => rfl))
    · have eg : a'.eval (.tmp 23) = .bool B2 := hl 23 (by decide)
      rcases Bool.eq_false_or_eq_true B2 with hB | hB
      rotate_left
      · exact g_no rfl rfl eg hB (putL' (Fr.refl _ _) fun h => Bool.noConfusion (hB.symm.trans h))
      have e1 : a'.eval (.tmp 1) = .int .i64 (r : Int) := hl 1 (by decide)
      refine g_of rfl rfl eg hB (u := .int .i64 (r : Int)) (w' := w') (by clear hl; revert e1; generalize a'.eval = ev; intro e1; go_simp) (putL' (Fr.refl _ _) (fun _ => rfl))
    · have eg : a'.eval (.tmp 23) = .bool B2 := hl 23 (by decide)
      rcases Bool.eq_false_or_eq_true B2 with hB | hB
      rotate_left
      · exact g_no rfl rfl eg hB (putL' (Fr.refl _ _) fun h => Bool.noConfusion (hB.symm.trans h))
      have e1 : a'.eval (.tmp 28) = C.val := (hl 28 (by decide) : (spOn B2 (Sp.val (C.val))).p _ _) hB
      have e2 : a'.eval (.tmp 29) = .int .i64 (r : Int) := (hl 29 (by decide) : (spOn B2 (Sp.val (.int .i64 (r : Int)))).p _ _) hB
      exact g_call (wanted_eq rfl rfl eg |>.trans hB) en_needs (by simp [e1, e2]) ((KN w' (hf9.trans hf fun _ _ h => h)).mono fun e w'' ⟨v, he, ⟨A, c, hv, hr⟩, f⟩ => ⟨_, he, putL' f (fun _ => ⟨A, c, hv, wide_rd hr⟩)⟩)
    · have eg : a'.eval (.tmp 23) = .bool B2 := hl 23 (by decide)
      rcases Bool.eq_false_or_eq_true B2 with hB | hB
      rotate_left
      · exact g_no rfl rfl eg hB (putL' (Fr.refl _ _) fun h => Bool.noConfusion (hB.symm.trans h))
      have e1 : a'.eval (.tmp 24) = .pointer (some ⟨sb, 0, none⟩) := (hl 24 (by decide) : (spOn B2 (Sp.val (.pointer (some ⟨sb, 0, none⟩)))).p _ _) hB
      obtain ⟨A2, q2, e2, r2⟩ := (hl 30 (by decide) : (spOn B2 (spNds L3)).p _ _) hB
      exact g_call (wanted_eq rfl rfl eg |>.trans hB) en_stand (by simp [e1, e2]) ((KS w' (hf9.trans hf fun _ _ h => h) A2 q2 r2).mono fun e w'' ⟨he, f⟩ => ⟨_, he, putL' f (fun _ => rfl)⟩)
    · have e1 : a'.eval (.tmp 23) = .bool B2 := hl 23 (by decide)
      rcases Bool.eq_false_or_eq_true B2 with hB | hB
      · have e2 : a'.eval (.tmp 31) = .bool b3 := (hl 31 (by decide) : (spOn B2 (Sp.val (.bool b3))).p _ _) hB
        refine l_of rfl (v := .bool b3) (w' := w') (by clear hl; rw [hB] at e1; revert e1 e2; generalize a'.eval = ev; intro e1 e2; go_simp) (putL' (Fr.refl _ _) (show Value.bool b3 = .bool B3 by rw [D3.out, hB, Bool.true_and]))
      · refine l_of rfl (v := .bool false) (w' := w') (by clear hl; rw [hB] at e1; have e2 : a'.eval (.const (.bool false)) = .bool false := rfl; revert e1 e2; generalize a'.eval = ev; intro e1 e2; go_simp) (putL' (Fr.refl _ _) (show Value.bool false = .bool B3 by rw [D3.out, hB, Bool.false_and]))
    · have e1 : a'.eval (.tmp 32) = .bool B3 := hl 32 (by decide)
      refine l_of rfl (v := .bool B3) (w' := w') (by clear hl; revert e1; generalize a'.eval = ev; intro e1; go_simp) (putL' (Fr.refl _ _) rfl)
    · have eg : a'.eval (.tmp 33) = .bool B3 := hl 33 (by decide)
      rcases Bool.eq_false_or_eq_true B3 with hB | hB
      rotate_left
      · exact g_no rfl rfl eg hB (putL' (Fr.refl _ _) fun h => Bool.noConfusion (hB.symm.trans h))
      have e1 : a'.eval (.tmp 0) = .pointer (some ⟨sb, 0, none⟩) := hl 0 (by decide)
      refine g_of rfl rfl eg hB (u := .pointer (some ⟨sb, 0, none⟩)) (w' := w') (by clear hl; revert e1; generalize a'.eval = ev; intro e1; go_simp) (putL' (Fr.refl _ _) (fun _ => rfl))
    · have eg : a'.eval (.tmp 33) = .bool B3 := hl 33 (by decide)
      rcases Bool.eq_false_or_eq_true B3 with hB | hB
      rotate_left
      · exact g_no rfl rfl eg hB (putL' (Fr.refl _ _) fun h => Bool.noConfusion (hB.symm.trans h))
      have e1 : a'.eval (.tmp 0) = .pointer (some ⟨sb, 0, none⟩) := hl 0 (by decide)
      refine g_of rfl rfl eg hB (u := .pointer (some ⟨sb, 0, none⟩)) (w' := w') (by clear hl; revert e1; generalize a'.eval = ev; intro e1; go_simp) (putL' (Fr.refl _ _) (fun _ => rfl))
    · have eg : a'.eval (.tmp 33) = .bool B3 := hl 33 (by decide)
      rcases Bool.eq_false_or_eq_true B3 with hB | hB
      rotate_left
      · exact g_no rfl rfl eg hB (putL' (Fr.refl _ _) fun h => Bool.noConfusion (hB.symm.trans h))
      have e1 : a'.eval (.tmp 35) = .pointer (some ⟨sb, 0, none⟩) := (hl 35 (by decide) : (spOn B3 (Sp.val (.pointer (some ⟨sb, 0, none⟩)))).p _ _) hB
      refine g_of rfl rfl eg hB (u := .pointer (some ⟨sb, 0, none⟩)) (w' := w') (by clear hl; revert e1; generalize a'.eval = ev; intro e1; go_simp) (putL' (Fr.refl _ _) (fun _ => rfl))
    · have eg : a'.eval (.tmp 33) = .bool B3 := hl 33 (by decide)
      rcases Bool.eq_false_or_eq_true B3 with hB | hB
      rotate_left
      · exact g_no rfl rfl eg hB (putL' (Fr.refl _ _) fun h => Bool.noConfusion (hB.symm.trans h))
      have e1 : a'.eval (.tmp 36) = .pointer (some ⟨sb, 0, none⟩) := (hl 36 (by decide) : (spOn B3 (Sp.val (.pointer (some ⟨sb, 0, none⟩)))).p _ _) hB
      refine g_of rfl rfl eg hB (u := .pointer (some ⟨sb, 12, none⟩)) (w' := w') (by clear hl; revert e1; generalize a'.eval = ev; intro e1; go_simp) (putL' (Fr.refl _ _) (fun _ => rfl))
    · have eg : a'.eval (.tmp 33) = .bool B3 := hl 33 (by decide)
      rcases Bool.eq_false_or_eq_true B3 with hB | hB
      rotate_left
      · exact g_no rfl rfl eg hB (putL' (Fr.refl _ _) fun h => Bool.noConfusion (hB.symm.trans h))
      have e1 : a'.eval (.tmp 37) = .pointer (some ⟨sb, 12, none⟩) := (hl 37 (by decide) : (spOn B3 (Sp.val (.pointer (some ⟨sb, 12, none⟩)))).p _ _) hB
      obtain ⟨c0, c1, c2, c3, c4, c5, c6, c7, c8⟩ := (HH.out.fr (hf9.trans hf fun _ _ h => h)).plan9
      refine g_of rfl rfl eg hB (u := C.val) (w' := w') (by clear hl; revert e1; generalize a'.eval = ev; intro e1; go_simp; rfl) (putL' (Fr.refl _ _) (fun _ => rfl))
    · have eg : a'.eval (.tmp 33) = .bool B3 := hl 33 (by decide)
      rcases Bool.eq_false_or_eq_true B3 with hB | hB
      rotate_left
      · exact g_no rfl rfl eg hB (putL' (Fr.refl _ _) fun h => Bool.noConfusion (hB.symm.trans h))
      have e1 : a'.eval (.tmp 1) = .int .i64 (r : Int) := hl 1 (by decide)
      refine g_of rfl rfl eg hB (u := .int .i64 (r : Int)) (w' := w') (by clear hl; revert e1; generalize a'.eval = ev; intro e1; go_simp) (putL' (Fr.refl _ _) (fun _ => rfl))
    · have eg : a'.eval (.tmp 33) = .bool B3 := hl 33 (by decide)
      rcases Bool.eq_false_or_eq_true B3 with hB | hB
      rotate_left
      · exact g_no rfl rfl eg hB (putL' (Fr.refl _ _) fun h => Bool.noConfusion (hB.symm.trans h))
      have e1 : a'.eval (.tmp 38) = C.val := (hl 38 (by decide) : (spOn B3 (Sp.val (C.val))).p _ _) hB
      have e2 : a'.eval (.tmp 39) = .int .i64 (r : Int) := (hl 39 (by decide) : (spOn B3 (Sp.val (.int .i64 (r : Int)))).p _ _) hB
      exact g_call (wanted_eq rfl rfl eg |>.trans hB) en_crossings (by simp [e1, e2]) ((KX w' (hf9.trans hf fun _ _ h => h)).mono fun e w'' ⟨v, he, ⟨A, c, hv, hr⟩, f⟩ => ⟨_, he, putL' f (fun _ => ⟨A, c, hv, wide_rd hr⟩)⟩)
    · have eg : a'.eval (.tmp 33) = .bool B3 := hl 33 (by decide)
      rcases Bool.eq_false_or_eq_true B3 with hB | hB
      rotate_left
      · exact g_no rfl rfl eg hB (putL' (Fr.refl _ _) fun h => Bool.noConfusion (hB.symm.trans h))
      have e1 : a'.eval (.tmp 34) = .pointer (some ⟨sb, 0, none⟩) := (hl 34 (by decide) : (spOn B3 (Sp.val (.pointer (some ⟨sb, 0, none⟩)))).p _ _) hB
      obtain ⟨A2, q2, e2, r2⟩ := (hl 40 (by decide) : (spOn B3 (spNms L4)).p _ _) hB
      exact g_call (wanted_eq rfl rfl eg |>.trans hB) en_closed (by simp [e1, e2]) ((KL w' (hf9.trans hf fun _ _ h => h) A2 q2 r2).mono fun e w'' ⟨he, f⟩ => ⟨_, he, putL' f (fun _ => rfl)⟩)
    · have e1 : a'.eval (.tmp 33) = .bool B3 := hl 33 (by decide)
      rcases Bool.eq_false_or_eq_true B3 with hB | hB
      · have e2 : a'.eval (.tmp 41) = .bool b4 := (hl 41 (by decide) : (spOn B3 (Sp.val (.bool b4))).p _ _) hB
        refine l_of rfl (v := .bool b4) (w' := w') (by clear hl; rw [hB] at e1; revert e1 e2; generalize a'.eval = ev; intro e1 e2; go_simp) (putL' (Fr.refl _ _) (show Value.bool b4 = .bool B4 by rw [D4.out, hB, Bool.true_and]))
      · refine l_of rfl (v := .bool false) (w' := w') (by clear hl; rw [hB] at e1; have e2 : a'.eval (.const (.bool false)) = .bool false := rfl; revert e1 e2; generalize a'.eval = ev; intro e1 e2; go_simp) (putL' (Fr.refl _ _) (show Value.bool false = .bool B4 by rw [D4.out, hB, Bool.false_and]))
    · have e1 : a'.eval (.tmp 42) = .bool B4 := hl 42 (by decide)
      refine l_of rfl (v := .bool B4) (w' := w') (by clear hl; revert e1; generalize a'.eval = ev; intro e1; go_simp) (putL' (Fr.refl _ _) rfl)
    · have eg : a'.eval (.tmp 43) = .bool B4 := hl 43 (by decide)
      rcases Bool.eq_false_or_eq_true B4 with hB | hB
      rotate_left
      · exact g_no rfl rfl eg hB (putL' (Fr.refl _ _) fun h => Bool.noConfusion (hB.symm.trans h))
      have e1 : a'.eval (.tmp 0) = .pointer (some ⟨sb, 0, none⟩) := hl 0 (by decide)
      refine g_of rfl rfl eg hB (u := .pointer (some ⟨sb, 0, none⟩)) (w' := w') (by clear hl; revert e1; generalize a'.eval = ev; intro e1; go_simp) (putL' (Fr.refl _ _) (fun _ => rfl))
    · have eg : a'.eval (.tmp 43) = .bool B4 := hl 43 (by decide)
      rcases Bool.eq_false_or_eq_true B4 with hB | hB
      rotate_left
      · exact g_no rfl rfl eg hB (putL' (Fr.refl _ _) fun h => Bool.noConfusion (hB.symm.trans h))
      have e1 : a'.eval (.tmp 44) = .pointer (some ⟨sb, 0, none⟩) := (hl 44 (by decide) : (spOn B4 (Sp.val (.pointer (some ⟨sb, 0, none⟩)))).p _ _) hB
      refine g_of rfl rfl eg hB (u := .pointer (some ⟨sb, 0, none⟩)) (w' := w') (by clear hl; revert e1; generalize a'.eval = ev; intro e1; go_simp) (putL' (Fr.refl _ _) (fun _ => rfl))
    · have eg : a'.eval (.tmp 43) = .bool B4 := hl 43 (by decide)
      rcases Bool.eq_false_or_eq_true B4 with hB | hB
      rotate_left
      · exact g_no rfl rfl eg hB (putL' (Fr.refl _ _) fun h => Bool.noConfusion (hB.symm.trans h))
      have e1 : a'.eval (.tmp 45) = .pointer (some ⟨sb, 0, none⟩) := (hl 45 (by decide) : (spOn B4 (Sp.val (.pointer (some ⟨sb, 0, none⟩)))).p _ _) hB
      refine g_of rfl rfl eg hB (u := .pointer (some ⟨sb, 0, none⟩)) (w' := w') (by clear hl; revert e1; generalize a'.eval = ev; intro e1; go_simp) (putL' (Fr.refl _ _) (fun _ => rfl))
    · have eg : a'.eval (.tmp 43) = .bool B4 := hl 43 (by decide)
      rcases Bool.eq_false_or_eq_true B4 with hB | hB
      rotate_left
      · exact g_no rfl rfl eg hB (putL' (Fr.refl _ _) fun h => Bool.noConfusion (hB.symm.trans h))
      have e1 : a'.eval (.tmp 46) = .pointer (some ⟨sb, 0, none⟩) := (hl 46 (by decide) : (spOn B4 (Sp.val (.pointer (some ⟨sb, 0, none⟩)))).p _ _) hB
      obtain ⟨c0, c1, c2, c3, c4⟩ := (HH.out.fr (hf9.trans hf fun _ _ h => h)).eye5
      refine g_of rfl rfl eg hB (u := .agg (eyeArr V C.tm.age)) (w' := w') (by clear hl; revert e1; generalize a'.eval = ev; intro e1; go_simp; rfl) (putL' (Fr.refl _ _) (fun _ => rfl))
    · have eg : a'.eval (.tmp 43) = .bool B4 := hl 43 (by decide)
      rcases Bool.eq_false_or_eq_true B4 with hB | hB
      rotate_left
      · exact g_no rfl rfl eg hB (putL' (Fr.refl _ _) fun h => Bool.noConfusion (hB.symm.trans h))
      have e1 : a'.eval (.tmp 0) = .pointer (some ⟨sb, 0, none⟩) := hl 0 (by decide)
      refine g_of rfl rfl eg hB (u := .pointer (some ⟨sb, 0, none⟩)) (w' := w') (by clear hl; revert e1; generalize a'.eval = ev; intro e1; go_simp) (putL' (Fr.refl _ _) (fun _ => rfl))
    · have eg : a'.eval (.tmp 43) = .bool B4 := hl 43 (by decide)
      rcases Bool.eq_false_or_eq_true B4 with hB | hB
      rotate_left
      · exact g_no rfl rfl eg hB (putL' (Fr.refl _ _) fun h => Bool.noConfusion (hB.symm.trans h))
      have e1 : a'.eval (.tmp 48) = .pointer (some ⟨sb, 0, none⟩) := (hl 48 (by decide) : (spOn B4 (Sp.val (.pointer (some ⟨sb, 0, none⟩)))).p _ _) hB
      refine g_of rfl rfl eg hB (u := .pointer (some ⟨sb, 0, none⟩)) (w' := w') (by clear hl; revert e1; generalize a'.eval = ev; intro e1; go_simp) (putL' (Fr.refl _ _) (fun _ => rfl))
    · have eg : a'.eval (.tmp 43) = .bool B4 := hl 43 (by decide)
      rcases Bool.eq_false_or_eq_true B4 with hB | hB
      rotate_left
      · exact g_no rfl rfl eg hB (putL' (Fr.refl _ _) fun h => Bool.noConfusion (hB.symm.trans h))
      have e1 : a'.eval (.tmp 49) = .pointer (some ⟨sb, 0, none⟩) := (hl 49 (by decide) : (spOn B4 (Sp.val (.pointer (some ⟨sb, 0, none⟩)))).p _ _) hB
      refine g_of rfl rfl eg hB (u := .pointer (some ⟨sb, 12, none⟩)) (w' := w') (by clear hl; revert e1; generalize a'.eval = ev; intro e1; go_simp) (putL' (Fr.refl _ _) (fun _ => rfl))
    · have eg : a'.eval (.tmp 43) = .bool B4 := hl 43 (by decide)
      rcases Bool.eq_false_or_eq_true B4 with hB | hB
      rotate_left
      · exact g_no rfl rfl eg hB (putL' (Fr.refl _ _) fun h => Bool.noConfusion (hB.symm.trans h))
      have e1 : a'.eval (.tmp 50) = .pointer (some ⟨sb, 12, none⟩) := (hl 50 (by decide) : (spOn B4 (Sp.val (.pointer (some ⟨sb, 12, none⟩)))).p _ _) hB
      refine g_of rfl rfl eg hB (u := .pointer (some ⟨sb, 16, none⟩)) (w' := w') (by clear hl; revert e1; generalize a'.eval = ev; intro e1; go_simp) (putL' (Fr.refl _ _) (fun _ => rfl))
    · have eg : a'.eval (.tmp 43) = .bool B4 := hl 43 (by decide)
      rcases Bool.eq_false_or_eq_true B4 with hB | hB
      rotate_left
      · exact g_no rfl rfl eg hB (putL' (Fr.refl _ _) fun h => Bool.noConfusion (hB.symm.trans h))
      have e1 : a'.eval (.tmp 51) = .pointer (some ⟨sb, 16, none⟩) := (hl 51 (by decide) : (spOn B4 (Sp.val (.pointer (some ⟨sb, 16, none⟩)))).p _ _) hB
      have c := H16.out w' (hf9.trans hf fun _ _ h => h)
      refine g_of rfl rfl eg hB (u := .slice (some ⟨gr, og, none⟩) C.rs.length C.c5) (w' := w') (by clear hl; revert e1; generalize a'.eval = ev; intro e1; go_simp) (putL' (Fr.refl _ _) (fun _ => rfl))
    · have eg : a'.eval (.tmp 43) = .bool B4 := hl 43 (by decide)
      rcases Bool.eq_false_or_eq_true B4 with hB | hB
      rotate_left
      · exact g_no rfl rfl eg hB (putL' (Fr.refl _ _) fun h => Bool.noConfusion (hB.symm.trans h))
      have e1 : a'.eval (.tmp 1) = .int .i64 (r : Int) := hl 1 (by decide)
      refine g_of rfl rfl eg hB (u := .int .i64 (r : Int)) (w' := w') (by clear hl; revert e1; generalize a'.eval = ev; intro e1; go_simp) (putL' (Fr.refl _ _) (fun _ => rfl))
    · have eg : a'.eval (.tmp 43) = .bool B4 := hl 43 (by decide)
      rcases Bool.eq_false_or_eq_true B4 with hB | hB
      rotate_left
      · exact g_no rfl rfl eg hB (putL' (Fr.refl _ _) fun h => Bool.noConfusion (hB.symm.trans h))
      have e1 : a'.eval (.tmp 52) = .slice (some ⟨gr, og, none⟩) C.rs.length C.c5 := (hl 52 (by decide) : (spOn B4 (Sp.val (.slice (some ⟨gr, og, none⟩) C.rs.length C.c5))).p _ _) hB
      have e2 : a'.eval (.tmp 53) = .int .i64 (r : Int) := (hl 53 (by decide) : (spOn B4 (Sp.val (.int .i64 (r : Int)))).p _ _) hB
      refine g_of rfl rfl eg hB (u := .pointer (some ⟨gr, og + r * 6, none⟩)) (w' := w') (by clear hl; revert e1 e2; generalize a'.eval = ev; intro e1 e2; go_simp) (putL' (Fr.refl _ _) (fun _ => rfl))
    · have eg : a'.eval (.tmp 43) = .bool B4 := hl 43 (by decide)
      rcases Bool.eq_false_or_eq_true B4 with hB | hB
      rotate_left
      · exact g_no rfl rfl eg hB (putL' (Fr.refl _ _) fun h => Bool.noConfusion (hB.symm.trans h))
      have e1 : a'.eval (.tmp 54) = .pointer (some ⟨gr, og + r * 6, none⟩) := (hl 54 (by decide) : (spOn B4 (Sp.val (.pointer (some ⟨gr, og + r * 6, none⟩)))).p _ _) hB
      refine g_of rfl rfl eg hB (u := .pointer (some ⟨gr, og + r * 6, none⟩)) (w' := w') (by clear hl; revert e1; generalize a'.eval = ev; intro e1; go_simp) (putL' (Fr.refl _ _) (fun _ => rfl))
    · have eg : a'.eval (.tmp 43) = .bool B4 := hl 43 (by decide)
      rcases Bool.eq_false_or_eq_true B4 with hB | hB
      rotate_left
      · exact g_no rfl rfl eg hB (putL' (Fr.refl _ _) fun h => Bool.noConfusion (hB.symm.trans h))
      have e1 : a'.eval (.tmp 55) = .pointer (some ⟨gr, og + r * 6, none⟩) := (hl 55 (by decide) : (spOn B4 (Sp.val (.pointer (some ⟨gr, og + r * 6, none⟩)))).p _ _) hB
      have c := HEN.out w' (hf9.trans hf fun _ _ h => h)
      refine g_of rfl rfl eg hB (u := .int .i64 en) (w' := w') (by clear hl; revert e1; generalize a'.eval = ev; intro e1; go_simp) (putL' (Fr.refl _ _) (fun _ => rfl))
    · have eg : a'.eval (.tmp 43) = .bool B4 := hl 43 (by decide)
      rcases Bool.eq_false_or_eq_true B4 with hB | hB
      rotate_left
      · exact g_no rfl rfl eg hB (putL' (Fr.refl _ _) fun h => Bool.noConfusion (hB.symm.trans h))
      have e1 : a'.eval (.tmp 47) = .agg (eyeArr V C.tm.age) := (hl 47 (by decide) : (spOn B4 (Sp.val (.agg (eyeArr V C.tm.age)))).p _ _) hB
      have e2 : a'.eval (.tmp 56) = .int .i64 en := (hl 56 (by decide) : (spOn B4 (Sp.val (.int .i64 en))).p _ _) hB
      exact g_call (wanted_eq rfl rfl eg |>.trans hB) en_lit (by simp [e1, e2]) ((KI w' (hf9.trans hf fun _ _ h => h)).mono fun e w'' ⟨he, f⟩ => ⟨_, he, putL' f (fun _ => rfl)⟩)
    · have e1 : a'.eval (.tmp 43) = .bool B4 := hl 43 (by decide)
      rcases Bool.eq_false_or_eq_true B4 with hB | hB
      · have e2 : a'.eval (.tmp 57) = .bool b5 := (hl 57 (by decide) : (spOn B4 (Sp.val (.bool b5))).p _ _) hB
        refine l_of rfl (v := .bool b5) (w' := w') (by clear hl; rw [hB] at e1; revert e1 e2; generalize a'.eval = ev; intro e1 e2; go_simp) (putL' (Fr.refl _ _) (show Value.bool b5 = .bool B5 by rw [D5.out, hB, Bool.true_and]))
      · refine l_of rfl (v := .bool false) (w' := w') (by clear hl; rw [hB] at e1; have e2 : a'.eval (.const (.bool false)) = .bool false := rfl; revert e1 e2; generalize a'.eval = ev; intro e1 e2; go_simp) (putL' (Fr.refl _ _) (show Value.bool false = .bool B5 by rw [D5.out, hB, Bool.false_and]))
    · have e1 : a'.eval (.tmp 58) = .bool B5 := hl 58 (by decide)
      refine l_of rfl (v := .bool B5) (w' := w') (by clear hl; revert e1; generalize a'.eval = ev; intro e1; go_simp) (putL' (Fr.refl _ _) rfl)
    · have eg : a'.eval (.tmp 59) = .bool B5 := hl 59 (by decide)
      rcases Bool.eq_false_or_eq_true B5 with hB | hB
      rotate_left
      · exact g_no rfl rfl eg hB (putL' (Fr.refl _ _) fun h => Bool.noConfusion (hB.symm.trans h))
      have e1 : a'.eval (.tmp 0) = .pointer (some ⟨sb, 0, none⟩) := hl 0 (by decide)
      refine g_of rfl rfl eg hB (u := .pointer (some ⟨sb, 0, none⟩)) (w' := w') (by clear hl; revert e1; generalize a'.eval = ev; intro e1; go_simp) (putL' (Fr.refl _ _) (fun _ => rfl))
    · have eg : a'.eval (.tmp 59) = .bool B5 := hl 59 (by decide)
      rcases Bool.eq_false_or_eq_true B5 with hB | hB
      rotate_left
      · exact g_no rfl rfl eg hB (putL' (Fr.refl _ _) fun h => Bool.noConfusion (hB.symm.trans h))
      have e1 : a'.eval (.tmp 1) = .int .i64 (r : Int) := hl 1 (by decide)
      refine g_of rfl rfl eg hB (u := .int .i64 (r : Int)) (w' := w') (by clear hl; revert e1; generalize a'.eval = ev; intro e1; go_simp) (putL' (Fr.refl _ _) (fun _ => rfl))
    · have eg : a'.eval (.tmp 59) = .bool B5 := hl 59 (by decide)
      rcases Bool.eq_false_or_eq_true B5 with hB | hB
      rotate_left
      · exact g_no rfl rfl eg hB (putL' (Fr.refl _ _) fun h => Bool.noConfusion (hB.symm.trans h))
      have e1 : a'.eval (.tmp 60) = .pointer (some ⟨sb, 0, none⟩) := (hl 60 (by decide) : (spOn B5 (Sp.val (.pointer (some ⟨sb, 0, none⟩)))).p _ _) hB
      have e2 : a'.eval (.tmp 61) = .int .i64 (r : Int) := (hl 61 (by decide) : (spOn B5 (Sp.val (.int .i64 (r : Int)))).p _ _) hB
      exact g_call (wanted_eq rfl rfl eg |>.trans hB) en_granted (by simp [e1, e2]) ((KG w' (hf9.trans hf fun _ _ h => h)).mono fun e w'' ⟨he, f⟩ => ⟨_, he, putL' f (fun _ => rfl)⟩)
    · have e1 : a'.eval (.tmp 59) = .bool B5 := hl 59 (by decide)
      rcases Bool.eq_false_or_eq_true B5 with hB | hB
      · have e2 : a'.eval (.tmp 62) = .bool b6 := (hl 62 (by decide) : (spOn B5 (Sp.val (.bool b6))).p _ _) hB
        refine l_of rfl (v := .bool b6) (w' := w') (by clear hl; rw [hB] at e1; revert e1 e2; generalize a'.eval = ev; intro e1 e2; go_simp) (putL' (Fr.refl _ _) (show Value.bool b6 = .bool B6 by rw [D6.out, hB, Bool.true_and]))
      · refine l_of rfl (v := .bool false) (w' := w') (by clear hl; rw [hB] at e1; have e2 : a'.eval (.const (.bool false)) = .bool false := rfl; revert e1 e2; generalize a'.eval = ev; intro e1 e2; go_simp) (putL' (Fr.refl _ _) (show Value.bool false = .bool B6 by rw [D6.out, hB, Bool.false_and]))
    · have e1 : a'.eval (.tmp 63) = .bool B6 := hl 63 (by decide)
      refine l_of rfl (v := .bool B6) (w' := w') (by clear hl; revert e1; generalize a'.eval = ev; intro e1; go_simp) (putL' (Fr.refl _ _) rfl)
  · intro val w' hf hT
    have e4 : val 4 = .bool B6 := hT 4 (by decide)
    simp only [laidL, List.foldl_cons, List.foldl_nil, e4]
    clear hT
    generalize val 5 = v5; generalize val 6 = v6; generalize val 7 = v7; generalize val 8 = v8; generalize val 9 = v9; generalize val 10 = v10; generalize val 11 = v11; generalize val 12 = v12; generalize val 13 = v13; generalize val 14 = v14; generalize val 15 = v15; generalize val 16 = v16; generalize val 17 = v17; generalize val 18 = v18; generalize val 19 = v19; generalize val 20 = v20; generalize val 21 = v21; generalize val 22 = v22; generalize val 23 = v23; generalize val 24 = v24; generalize val 25 = v25; generalize val 26 = v26; generalize val 27 = v27; generalize val 28 = v28; generalize val 29 = v29; generalize val 30 = v30; generalize val 31 = v31; generalize val 32 = v32; generalize val 33 = v33; generalize val 34 = v34; generalize val 35 = v35; generalize val 36 = v36; generalize val 37 = v37; generalize val 38 = v38; generalize val 39 = v39; generalize val 40 = v40; generalize val 41 = v41; generalize val 42 = v42; generalize val 43 = v43; generalize val 44 = v44; generalize val 45 = v45; generalize val 46 = v46; generalize val 47 = v47; generalize val 48 = v48; generalize val 49 = v49; generalize val 50 = v50; generalize val 51 = v51; generalize val 52 = v52; generalize val 53 = v53; generalize val 54 = v54; generalize val 55 = v55; generalize val 56 = v56; generalize val 57 = v57; generalize val 58 = v58; generalize val 59 = v59; generalize val 60 = v60; generalize val 61 = v61; generalize val 62 = v62; generalize val 63 = v63
    simp only [List.setIfInBounds_toArray, List.set_cons_succ, List.set_cons_zero]
    refine (show Tail _ _ _ 0 _ _ _ from ?_)
    unfold Tail
    go_wp2_with fail
    go_ret
    exact ⟨rfl, hf9.trans hf fun _ _ h => h⟩
end Go.Proofs.YtginfnbdnkgjbaaGreat.Nk
/- States and cycles that come in (written by gen/op.py). -/
namespace Go.Proofs.YtginfnbdnkgjbaaGreat.Nk
open Go.ChangeShapes Go.WideShapes Go.ChangeAt Go.RowKit Go.Deep Go.Joins Lk

theorem cells_bool : Tryz.prog.cellsOf 4 = 1 := by kernel_rfl
theorem cells_rs : Tryz.prog.cellsOf 46 = 4 := by kernel_rfl
theorem cells_mo : Tryz.prog.cellsOf 48 = 2 := by kernel_rfl
theorem cells_ln : Tryz.prog.cellsOf 52 = 8 := by kernel_rfl
theorem cells_lo : Tryz.prog.cellsOf 92 = 3 := by kernel_rfl
theorem cells_core : Tryz.prog.cellsOf 35 = 7 := by kernel_rfl
theorem cells_view : Tryz.prog.cellsOf 83 = 4 := by kernel_rfl
theorem cells_cyc : Tryz.prog.cellsOf 85 = 6 := by kernel_rfl
theorem by_rs : Tryz.prog.bytesOf 46 = 32 := by kernel_rfl
theorem by_mo : Tryz.prog.bytesOf 48 = 16 := by kernel_rfl
theorem by_ln : Tryz.prog.bytesOf 52 = 64 := by kernel_rfl
section
variable {H : Type} {enc : TypeId × Value → H} {w : World} {base : Nat}
theorem cells_blk : Tryz.prog.cellsOf 50 = 3 := by kernel_rfl
set_option maxRecDepth 100000 in
theorem blk_of {n : Nat} {cs : List Value} {y : DataW H × List MemPlace} (h : DataW.trod enc Tryz.prog w 0 (fun _ => true) true n 50 cs = some y) : ∃ s : (Int × Int × Int), cs = (fun s : Int × Int × Int => ([.int .i64 s.1, .int .i64 s.2.1, .int .i64 s.2.2] : List Value)) s := by
  obtain ⟨xs, m, _, hx, hlen, hxl, hf⟩ := DataW.trod_struct Tryz.underlying50 h
  rw [cells_blk] at hlen
  match cs, hlen with
  | [c0, c1, c2], _ =>
    match xs, hxl with
    | [x0, x1, x2], _ =>
      have h0 : DataW.trod enc Tryz.prog w 0 (fun _ => true) true m 3 (([c0, c1, c2].drop 0).take (Tryz.prog.cellsOf 3)) = some x0 := hf 0 _ rfl
      have h1 : DataW.trod enc Tryz.prog w 0 (fun _ => true) true m 3 (([c0, c1, c2].drop 1).take (Tryz.prog.cellsOf 3)) = some x1 := hf 1 _ rfl
      have h2 : DataW.trod enc Tryz.prog w 0 (fun _ => true) true m 3 (([c0, c1, c2].drop 2).take (Tryz.prog.cellsOf 3)) = some x2 := hf 2 _ rfl
      rw [Tryz.cellInt] at h0
      rw [Tryz.cellInt] at h1
      rw [Tryz.cellInt] at h2
      obtain ⟨a0, rfl, -⟩ := int_of (show DataW.trod enc Tryz.prog w 0 (fun _ => true) true m 3 [c0] = some x0 from h0)
      obtain ⟨a1, rfl, -⟩ := int_of (show DataW.trod enc Tryz.prog w 0 (fun _ => true) true m 3 [c1] = some x1 from h1)
      obtain ⟨a2, rfl, -⟩ := int_of (show DataW.trod enc Tryz.prog w 0 (fun _ => true) true m 3 [c2] = some x2 from h2)
      exact ⟨⟨a0, a1, a2⟩, rfl⟩
set_option maxRecDepth 100000 in
theorem rs_of {n : Nat} {cs : List Value} {y : DataW H × List MemPlace} (h : DataW.trod enc Tryz.prog w 0 (fun _ => true) true n 46 cs = some y) : ∃ s : Rs, cs = cRs s := by
  obtain ⟨xs, m, _, hx, hlen, hxl, hf⟩ := DataW.trod_struct Tryz.underlying46 h
  rw [cells_rs] at hlen
  match cs, hlen with
  | [c0, c1, c2, c3], _ =>
    match xs, hxl with
    | [x0, x1, x2, x3], _ =>
      have h0 : DataW.trod enc Tryz.prog w 0 (fun _ => true) true m 3 (([c0, c1, c2, c3].drop 0).take (Tryz.prog.cellsOf 3)) = some x0 := hf 0 _ rfl
      have h1 : DataW.trod enc Tryz.prog w 0 (fun _ => true) true m 3 (([c0, c1, c2, c3].drop 1).take (Tryz.prog.cellsOf 3)) = some x1 := hf 1 _ rfl
      have h2 : DataW.trod enc Tryz.prog w 0 (fun _ => true) true m 3 (([c0, c1, c2, c3].drop 2).take (Tryz.prog.cellsOf 3)) = some x2 := hf 2 _ rfl
      have h3 : DataW.trod enc Tryz.prog w 0 (fun _ => true) true m 3 (([c0, c1, c2, c3].drop 3).take (Tryz.prog.cellsOf 3)) = some x3 := hf 3 _ rfl
      rw [Tryz.cellInt] at h0
      rw [Tryz.cellInt] at h1
      rw [Tryz.cellInt] at h2
      rw [Tryz.cellInt] at h3
      obtain ⟨a0, rfl, -⟩ := int_of (show DataW.trod enc Tryz.prog w 0 (fun _ => true) true m 3 [c0] = some x0 from h0)
      obtain ⟨a1, rfl, -⟩ := int_of (show DataW.trod enc Tryz.prog w 0 (fun _ => true) true m 3 [c1] = some x1 from h1)
      obtain ⟨a2, rfl, -⟩ := int_of (show DataW.trod enc Tryz.prog w 0 (fun _ => true) true m 3 [c2] = some x2 from h2)
      obtain ⟨a3, rfl, -⟩ := int_of (show DataW.trod enc Tryz.prog w 0 (fun _ => true) true m 3 [c3] = some x3 from h3)
      exact ⟨⟨a0, a1, a2, a3⟩, rfl⟩
set_option maxRecDepth 100000 in
theorem open_rss {n : Nat} {v : Value} {y : DataW H × List MemPlace} (h : DataW.trod enc Tryz.prog w 0 (fun _ => true) true n 31 [v] = some y) :
    ∃ (A : Option Addr) (c : Nat) (l : List Rs), v = .slice A l.length c ∧ Rd w A (l.flatMap cRs) ∧ SL y.1 l.length := by
  obtain ⟨A, c, l, e, r, -, -, s⟩ := open_flatQ (fun (_ : Rs) _ => True) 4 cRs (fun _ => rfl) Tryz.underlying31 cells_rs (fun _ _ _ h => by obtain ⟨a, e⟩ := rs_of h; exact ⟨a, e, trivial⟩) h
  refine ⟨A, c, l, e, r, ?_⟩
  rcases s with ⟨a, b⟩ | ⟨es, rest, a, b, -⟩
  · exact .inl ⟨a, by rw [b]; rfl⟩
  · exact .inr ⟨es, rest, a, b⟩
set_option maxRecDepth 100000 in
theorem mo_of {n : Nat} {cs : List Value} {y : DataW H × List MemPlace} (h : DataW.trod enc Tryz.prog w 0 (fun _ => true) true n 48 cs = some y) : ∃ s : Mo, cs = cMo s := by
  obtain ⟨xs, m, _, hx, hlen, hxl, hf⟩ := DataW.trod_struct Tryz.underlying48 h
  rw [cells_mo] at hlen
  match cs, hlen with
  | [c0, c1], _ =>
    match xs, hxl with
    | [x0, x1], _ =>
      have h0 : DataW.trod enc Tryz.prog w 0 (fun _ => true) true m 3 (([c0, c1].drop 0).take (Tryz.prog.cellsOf 3)) = some x0 := hf 0 _ rfl
      have h1 : DataW.trod enc Tryz.prog w 0 (fun _ => true) true m 3 (([c0, c1].drop 1).take (Tryz.prog.cellsOf 3)) = some x1 := hf 1 _ rfl
      rw [Tryz.cellInt] at h0
      rw [Tryz.cellInt] at h1
      obtain ⟨a0, rfl, -⟩ := int_of (show DataW.trod enc Tryz.prog w 0 (fun _ => true) true m 3 [c0] = some x0 from h0)
      obtain ⟨a1, rfl, -⟩ := int_of (show DataW.trod enc Tryz.prog w 0 (fun _ => true) true m 3 [c1] = some x1 from h1)
      exact ⟨⟨a0, a1⟩, rfl⟩
set_option maxRecDepth 100000 in
theorem open_mos {n : Nat} {v : Value} {y : DataW H × List MemPlace} (h : DataW.trod enc Tryz.prog w 0 (fun _ => true) true n 32 [v] = some y) :
    ∃ (A : Option Addr) (c : Nat) (l : List Mo), v = .slice A l.length c ∧ Rd w A (l.flatMap cMo) ∧ SL y.1 l.length := by
  obtain ⟨A, c, l, e, r, -, -, s⟩ := open_flatQ (fun (_ : Mo) _ => True) 2 cMo (fun _ => rfl) Tryz.underlying32 cells_mo (fun _ _ _ h => by obtain ⟨a, e⟩ := mo_of h; exact ⟨a, e, trivial⟩) h
  refine ⟨A, c, l, e, r, ?_⟩
  rcases s with ⟨a, b⟩ | ⟨es, rest, a, b, -⟩
  · exact .inl ⟨a, by rw [b]; rfl⟩
  · exact .inr ⟨es, rest, a, b⟩
set_option maxRecDepth 100000 in
theorem ln_of {n : Nat} {cs : List Value} {y : DataW H × List MemPlace} (h : DataW.trod enc Tryz.prog w 0 (fun _ => true) true n 52 cs = some y) : ∃ s : Ln, cs = cLn s := by
  obtain ⟨xs, m, _, hx, hlen, hxl, hf⟩ := DataW.trod_struct Tryz.underlying52 h
  rw [cells_ln] at hlen
  match cs, hlen with
  | [c0, c1, c2, c3, c4, c5, c6, c7], _ =>
    match xs, hxl with
    | [x0, x1, x2, x3, x4, x5], _ =>
      have h0 : DataW.trod enc Tryz.prog w 0 (fun _ => true) true m 3 (([c0, c1, c2, c3, c4, c5, c6, c7].drop 0).take (Tryz.prog.cellsOf 3)) = some x0 := hf 0 _ rfl
      have h1 : DataW.trod enc Tryz.prog w 0 (fun _ => true) true m 3 (([c0, c1, c2, c3, c4, c5, c6, c7].drop 1).take (Tryz.prog.cellsOf 3)) = some x1 := hf 1 _ rfl
      have h2 : DataW.trod enc Tryz.prog w 0 (fun _ => true) true m 3 (([c0, c1, c2, c3, c4, c5, c6, c7].drop 2).take (Tryz.prog.cellsOf 3)) = some x2 := hf 2 _ rfl
      have h3 : DataW.trod enc Tryz.prog w 0 (fun _ => true) true m 3 (([c0, c1, c2, c3, c4, c5, c6, c7].drop 3).take (Tryz.prog.cellsOf 3)) = some x3 := hf 3 _ rfl
      have h4 : DataW.trod enc Tryz.prog w 0 (fun _ => true) true m 50 (([c0, c1, c2, c3, c4, c5, c6, c7].drop 4).take (Tryz.prog.cellsOf 50)) = some x4 := hf 4 _ rfl
      have h5 : DataW.trod enc Tryz.prog w 0 (fun _ => true) true m 3 (([c0, c1, c2, c3, c4, c5, c6, c7].drop 7).take (Tryz.prog.cellsOf 3)) = some x5 := hf 5 _ rfl
      rw [Tryz.cellInt] at h0 h1 h2 h3 h5
      rw [cells_blk] at h4
      obtain ⟨a0, rfl, -⟩ := int_of (show DataW.trod enc Tryz.prog w 0 (fun _ => true) true m 3 [c0] = some x0 from h0)
      obtain ⟨a1, rfl, -⟩ := int_of (show DataW.trod enc Tryz.prog w 0 (fun _ => true) true m 3 [c1] = some x1 from h1)
      obtain ⟨a2, rfl, -⟩ := int_of (show DataW.trod enc Tryz.prog w 0 (fun _ => true) true m 3 [c2] = some x2 from h2)
      obtain ⟨a3, rfl, -⟩ := int_of (show DataW.trod enc Tryz.prog w 0 (fun _ => true) true m 3 [c3] = some x3 from h3)
      obtain ⟨a5, rfl, -⟩ := int_of (show DataW.trod enc Tryz.prog w 0 (fun _ => true) true m 3 [c7] = some x5 from h5)
      obtain ⟨⟨p0, p1, p2⟩, ep⟩ := blk_of (show DataW.trod enc Tryz.prog w 0 (fun _ => true) true m 50 [c4, c5, c6] = some x4 from h4)
      simp only [List.cons.injEq, and_true] at ep
      obtain ⟨rfl, rfl, rfl⟩ := ep
      exact ⟨⟨a0, a1, a2, a3, p0, p1, p2, a5⟩, rfl⟩
set_option maxRecDepth 100000 in
theorem open_lns {n : Nat} {v : Value} {y : DataW H × List MemPlace} (h : DataW.trod enc Tryz.prog w 0 (fun _ => true) true n 33 [v] = some y) :
    ∃ (A : Option Addr) (c : Nat) (l : List Ln), v = .slice A l.length c ∧ Rd w A (l.flatMap cLn) ∧ SL y.1 l.length := by
  obtain ⟨A, c, l, e, r, -, -, s⟩ := open_flatQ (fun (_ : Ln) _ => True) 8 cLn (fun _ => rfl) Tryz.underlying33 cells_ln (fun _ _ _ h => by obtain ⟨a, e⟩ := ln_of h; exact ⟨a, e, trivial⟩) h
  refine ⟨A, c, l, e, r, ?_⟩
  rcases s with ⟨a, b⟩ | ⟨es, rest, a, b, -⟩
  · exact .inl ⟨a, by rw [b]; rfl⟩
  · exact .inr ⟨es, rest, a, b⟩
set_option maxRecDepth 100000 in
theorem lo_of {n : Nat} {cs : List Value} {y : DataW H × List MemPlace} (h : DataW.trod enc Tryz.prog w 0 (fun _ => true) true n 92 cs = some y) : ∃ s : Lo, cs = cLo s := by
  obtain ⟨xs, m, _, hx, hlen, hxl, hf⟩ := DataW.trod_struct Tryz.underlying92 h
  rw [cells_lo] at hlen
  match cs, hlen with
  | [c0, c1, c2], _ =>
    match xs, hxl with
    | [x0, x1, x2], _ =>
      have h0 : DataW.trod enc Tryz.prog w 0 (fun _ => true) true m 3 (([c0, c1, c2].drop 0).take (Tryz.prog.cellsOf 3)) = some x0 := hf 0 _ rfl
      have h1 : DataW.trod enc Tryz.prog w 0 (fun _ => true) true m 3 (([c0, c1, c2].drop 1).take (Tryz.prog.cellsOf 3)) = some x1 := hf 1 _ rfl
      have h2 : DataW.trod enc Tryz.prog w 0 (fun _ => true) true m 4 (([c0, c1, c2].drop 2).take (Tryz.prog.cellsOf 4)) = some x2 := hf 2 _ rfl
      rw [Tryz.cellInt] at h0
      rw [Tryz.cellInt] at h1
      rw [cells_bool] at h2
      obtain ⟨a0, rfl, -⟩ := int_of (show DataW.trod enc Tryz.prog w 0 (fun _ => true) true m 3 [c0] = some x0 from h0)
      obtain ⟨a1, rfl, -⟩ := int_of (show DataW.trod enc Tryz.prog w 0 (fun _ => true) true m 3 [c1] = some x1 from h1)
      obtain ⟨a2, e2, _⟩ := DataW.trod_bool Tryz.underlying4 (show DataW.trod enc Tryz.prog w 0 (fun _ => true) true m 4 [c2] = some x2 from h2)
      have e2 : c2 = .bool a2 := by simpa using e2
      subst e2
      exact ⟨⟨a0, a1, a2⟩, rfl⟩
set_option maxRecDepth 100000 in
theorem open_los {n : Nat} {v : Value} {y : DataW H × List MemPlace} (h : DataW.trod enc Tryz.prog w 0 (fun _ => true) true n 81 [v] = some y) :
    ∃ (A : Option Addr) (c : Nat) (l : List Lo), v = .slice A l.length c ∧ Rd w A (l.flatMap cLo) ∧ SL y.1 l.length := by
  obtain ⟨A, c, l, e, r, -, -, s⟩ := open_flatQ (fun (_ : Lo) _ => True) 3 cLo (fun _ => rfl) Tryz.underlying81 cells_lo (fun _ _ _ h => by obtain ⟨a, e⟩ := lo_of h; exact ⟨a, e, trivial⟩) h
  refine ⟨A, c, l, e, r, ?_⟩
  rcases s with ⟨a, b⟩ | ⟨es, rest, a, b, -⟩
  · exact .inl ⟨a, by rw [b]; rfl⟩
  · exact .inr ⟨es, rest, a, b⟩
theorem cells_Lln : Tryz.prog.cellsOf 33 = 1 := by kernel_rfl
theorem cells_Llo : Tryz.prog.cellsOf 81 = 1 := by kernel_rfl
theorem cells_Lmo : Tryz.prog.cellsOf 32 = 1 := by kernel_rfl
theorem cells_Lrs : Tryz.prog.cellsOf 31 = 1 := by kernel_rfl
theorem cells_Li : Tryz.prog.cellsOf 25 = 1 := by kernel_rfl
/-- what is known of a state that came in -/
structure CoIn (w : World) (K : Km) (d : DataW H) : Prop where
  own : Rd w K.A1 (K.own.map (Value.int .i64))
  rts : Rd w K.A2 (K.rts.flatMap cRs)
  pts : Rd w K.A3 (K.pts.flatMap cMo)
  crs : Rd w K.A4 (K.crs.flatMap cMo)
  lns : Rd w K.A5 (K.lns.flatMap cLn)
  rss : Rd w K.A6 (K.rss.map (Value.int .i64))
  data : ∃ d1 d2 d3 d4 d5 d6 d7, d = .agg [d1, d2, d3, d4, d5, d6, d7] ∧ SL d1 K.own.length ∧ SL d2 K.rts.length ∧ SL d3 K.pts.length ∧ SL d4 K.crs.length ∧ SL d5 K.lns.length ∧ SL d6 K.rss.length
set_option maxRecDepth 100000 in
set_option maxHeartbeats 1000000 in
theorem open_core {v : Value} {d : DataW H} {ps : List MemPlace} (hv : Value.okWide Tryz.prog w .any base 35 v) (h : DataW.Trod enc Tryz.prog w 0 (fun _ => true) true 35 v d ps) : ∃ K : Km, v = K.val ∧ CoIn w K d := by
  simp only [Value.okWide, Tryz.underlying35] at hv
  obtain ⟨cs, rfl, hcs, _⟩ := hv
  obtain ⟨fuel, hf0⟩ := h
  obtain ⟨l⟩ := cs
  obtain ⟨xs, m, _, hx, hlen, hxl, hf⟩ := DataW.trod_struct Tryz.underlying35 hf0
  rw [cells_core] at hlen
  match l, hlen with
  | [c0, c1, c2, c3, c4, c5, c6], _ =>
    match xs, hxl with
    | [x0, x1, x2, x3, x4, x5, x6], _ =>
      have h0 : DataW.trod enc Tryz.prog w 0 (fun _ => true) true m 25 (([c0, c1, c2, c3, c4, c5, c6].drop 0).take (Tryz.prog.cellsOf 25)) = some x0 := hf 0 _ rfl
      have h1 : DataW.trod enc Tryz.prog w 0 (fun _ => true) true m 31 (([c0, c1, c2, c3, c4, c5, c6].drop 1).take (Tryz.prog.cellsOf 31)) = some x1 := hf 1 _ rfl
      have h2 : DataW.trod enc Tryz.prog w 0 (fun _ => true) true m 32 (([c0, c1, c2, c3, c4, c5, c6].drop 2).take (Tryz.prog.cellsOf 32)) = some x2 := hf 2 _ rfl
      have h3 : DataW.trod enc Tryz.prog w 0 (fun _ => true) true m 32 (([c0, c1, c2, c3, c4, c5, c6].drop 3).take (Tryz.prog.cellsOf 32)) = some x3 := hf 3 _ rfl
      have h4 : DataW.trod enc Tryz.prog w 0 (fun _ => true) true m 33 (([c0, c1, c2, c3, c4, c5, c6].drop 4).take (Tryz.prog.cellsOf 33)) = some x4 := hf 4 _ rfl
      have h5 : DataW.trod enc Tryz.prog w 0 (fun _ => true) true m 25 (([c0, c1, c2, c3, c4, c5, c6].drop 5).take (Tryz.prog.cellsOf 25)) = some x5 := hf 5 _ rfl
      have h6 : DataW.trod enc Tryz.prog w 0 (fun _ => true) true m 4 (([c0, c1, c2, c3, c4, c5, c6].drop 6).take (Tryz.prog.cellsOf 4)) = some x6 := hf 6 _ rfl
      rw [cells_Li] at h0
      rw [cells_Lrs] at h1
      rw [cells_Lmo] at h2
      rw [cells_Lmo] at h3
      rw [cells_Lln] at h4
      rw [cells_Li] at h5
      rw [cells_bool] at h6
      obtain ⟨A0, k0, l0, rfl, r0, -, -, s0, -⟩ := open_nums (show DataW.trod enc Tryz.prog w 0 (fun _ => true) true m 25 [c0] = some x0 from h0)
      obtain ⟨A1, k1, l1, rfl, r1, s1⟩ := open_rss (show DataW.trod enc Tryz.prog w 0 (fun _ => true) true m 31 [c1] = some x1 from h1)
      obtain ⟨A2, k2, l2, rfl, r2, s2⟩ := open_mos (show DataW.trod enc Tryz.prog w 0 (fun _ => true) true m 32 [c2] = some x2 from h2)
      obtain ⟨A3, k3, l3, rfl, r3, s3⟩ := open_mos (show DataW.trod enc Tryz.prog w 0 (fun _ => true) true m 32 [c3] = some x3 from h3)
      obtain ⟨A4, k4, l4, rfl, r4, s4⟩ := open_lns (show DataW.trod enc Tryz.prog w 0 (fun _ => true) true m 33 [c4] = some x4 from h4)
      obtain ⟨A5, k5, l5, rfl, r5, -, -, s5, -⟩ := open_nums (show DataW.trod enc Tryz.prog w 0 (fun _ => true) true m 25 [c5] = some x5 from h5)
      obtain ⟨b6, e6, _⟩ := DataW.trod_bool Tryz.underlying4 (show DataW.trod enc Tryz.prog w 0 (fun _ => true) true m 4 [c6] = some x6 from h6)
      have e6 : c6 = .bool b6 := by simpa using e6
      subst e6
      have hd : d = .agg [x0.1, x1.1, x2.1, x3.1, x4.1, x5.1, x6.1] := by
        have := congrArg Prod.fst hx
        exact this
      exact ⟨⟨A0, k0, l0, A1, k1, l1, A2, k2, l2, A3, k3, l3, A4, k4, l4, A5, k5, l5, b6⟩, rfl, ⟨r0, r1, r2, r3, r4, r5, x0.1, x1.1, x2.1, x3.1, x4.1, x5.1, x6.1, hd, s0, s1, s2, s3, s4, s5⟩⟩
set_option maxRecDepth 100000 in
set_option maxHeartbeats 1000000 in
theorem view_of {n : Nat} {cs : List Value} {y : DataW H × List MemPlace} (h : DataW.trod enc Tryz.prog w 0 (fun _ => true) true n 83 cs = some y) : ∃ V : Vm, cs = V.arr.toList ∧ V.Ok w := by
  obtain ⟨xs, m, _, hx, hlen, hxl, hf⟩ := DataW.trod_struct Tryz.underlying83 h
  rw [cells_view] at hlen
  match cs, hlen with
  | [c0, c1, c2, c3], _ =>
    match xs, hxl with
    | [x0, x1, x2, x3], _ =>
      have h0 : DataW.trod enc Tryz.prog w 0 (fun _ => true) true m 81 (([c0, c1, c2, c3].drop 0).take (Tryz.prog.cellsOf 81)) = some x0 := hf 0 _ rfl
      have h1 : DataW.trod enc Tryz.prog w 0 (fun _ => true) true m 81 (([c0, c1, c2, c3].drop 1).take (Tryz.prog.cellsOf 81)) = some x1 := hf 1 _ rfl
      have h2 : DataW.trod enc Tryz.prog w 0 (fun _ => true) true m 81 (([c0, c1, c2, c3].drop 2).take (Tryz.prog.cellsOf 81)) = some x2 := hf 2 _ rfl
      have h3 : DataW.trod enc Tryz.prog w 0 (fun _ => true) true m 81 (([c0, c1, c2, c3].drop 3).take (Tryz.prog.cellsOf 81)) = some x3 := hf 3 _ rfl
      rw [cells_Llo] at h0
      rw [cells_Llo] at h1
      rw [cells_Llo] at h2
      rw [cells_Llo] at h3
      obtain ⟨A0, k0, l0, rfl, r0, s0⟩ := open_los (show DataW.trod enc Tryz.prog w 0 (fun _ => true) true m 81 [c0] = some x0 from h0)
      obtain ⟨A1, k1, l1, rfl, r1, s1⟩ := open_los (show DataW.trod enc Tryz.prog w 0 (fun _ => true) true m 81 [c1] = some x1 from h1)
      obtain ⟨A2, k2, l2, rfl, r2, s2⟩ := open_los (show DataW.trod enc Tryz.prog w 0 (fun _ => true) true m 81 [c2] = some x2 from h2)
      obtain ⟨A3, k3, l3, rfl, r3, s3⟩ := open_los (show DataW.trod enc Tryz.prog w 0 (fun _ => true) true m 81 [c3] = some x3 from h3)
      exact ⟨⟨A0, k0, l0, A1, k1, l1, A2, k2, l2, A3, k3, l3⟩, rfl, ⟨r0, r1, r2, r3⟩⟩
def cyArgs (V : Vm) (now : Int) (rec : Bool) : Value := .agg #[.slice V.A1 V.occ.length V.c1, .slice V.A2 V.pos.length V.c2, .slice V.A3 V.shut.length V.c3, .slice V.A4 V.lamp.length V.c4, .int .i64 now, .bool rec]
set_option maxRecDepth 100000 in
set_option maxHeartbeats 1000000 in
theorem open_cycle {v : Value} {d : DataW H} {ps : List MemPlace} (hv : Value.okWide Tryz.prog w .any base 85 v) (h : DataW.Trod enc Tryz.prog w 0 (fun _ => true) true 85 v d ps) : ∃ (V : Vm) (now : Int) (rec : Bool), v = cyArgs V now rec ∧ V.Ok w := by
  simp only [Value.okWide, Tryz.underlying85] at hv
  obtain ⟨cs, rfl, hcs, _⟩ := hv
  obtain ⟨fuel, hf0⟩ := h
  obtain ⟨l⟩ := cs
  obtain ⟨xs, m, _, hx, hlen, hxl, hf⟩ := DataW.trod_struct Tryz.underlying85 hf0
  rw [cells_cyc] at hlen
  match l, hlen with
  | [c0, c1, c2, c3, c4, c5], _ =>
    match xs, hxl with
    | [x0, x1, x2], _ =>
      have h0 : DataW.trod enc Tryz.prog w 0 (fun _ => true) true m 83 (([c0, c1, c2, c3, c4, c5].drop 0).take (Tryz.prog.cellsOf 83)) = some x0 := hf 0 _ rfl
      have h1 : DataW.trod enc Tryz.prog w 0 (fun _ => true) true m 3 (([c0, c1, c2, c3, c4, c5].drop (0 + Tryz.prog.cellsOf 83)).take (Tryz.prog.cellsOf 3)) = some x1 := hf 1 _ rfl
      have h2 : DataW.trod enc Tryz.prog w 0 (fun _ => true) true m 4 (([c0, c1, c2, c3, c4, c5].drop (0 + Tryz.prog.cellsOf 83 + Tryz.prog.cellsOf 3)).take (Tryz.prog.cellsOf 4)) = some x2 := hf 2 _ rfl
      simp only [cells_view, Tryz.cellInt, cells_bool] at h0 h1 h2
      obtain ⟨V, eV, hV⟩ := view_of (show DataW.trod enc Tryz.prog w 0 (fun _ => true) true m 83 [c0, c1, c2, c3] = some x0 from h0)
      unfold Vm.arr at eV
      simp only [List.cons.injEq, and_true] at eV
      obtain ⟨rfl, rfl, rfl, rfl⟩ := eV
      obtain ⟨a1, rfl, -⟩ := int_of (show DataW.trod enc Tryz.prog w 0 (fun _ => true) true m 3 [c4] = some x1 from h1)
      obtain ⟨b2, e2, _⟩ := DataW.trod_bool Tryz.underlying4 (show DataW.trod enc Tryz.prog w 0 (fun _ => true) true m 4 [c5] = some x2 from h2)
      have e2 : c5 = .bool b2 := by simpa using e2
      subst e2
      exact ⟨V, a1, b2, rfl, hV⟩
theorem co_field {ts : List TypeId} {ds : List (DataW H)} {j : Nat} {d1 d2 d3 d4 d5 d6 d7 : DataW H} (ht : ts[j]? = some 35) (hd : ds[j]? = some (.agg [d1, d2, d3, d4, d5, d6, d7])) {i : Nat} {t : TypeId} {di : DataW H} (hi : [25, 31, 32, 32, 33, 25, 4][i]? = some t) (hdi : [d1, d2, d3, d4, d5, d6, d7][i]? = some di) : ∀ k, k ∈ di.weights Tryz.prog t → k ∈ DataW.weightsEach Tryz.prog ts ds := fun k hk => by
  refine DataW.weights_mem_each ht hd _ ?_
  simp only [DataW.weights, Tryz.underlying35]
  exact DataW.weights_mem_each hi hdi _ hk
/-- what came in is a state that the contracts take -/
theorem core_ok {w : World} {K : Km} {d : DataW H} {ts : List TypeId} {ds : List (DataW H)} {j : Nat} (h : CoIn w K d) (hsz : (DataW.weightsEach Tryz.prog ts ds).all (· ≤ reachBytes) = true) (ht : ts[j]? = some 35) (hd : ds[j]? = some d) : K.Ok w := by
  obtain ⟨d1, d2, d3, d4, d5, d6, d7, rfl, s1, s2, s3, s4, s5, s6⟩ := h.data
  have b1 := sl_size hsz s1 Tryz.underlying25 Tryz.by4 (co_field ht hd (i := 0) rfl rfl)
  have b2 := sl_size hsz s2 Tryz.underlying31 by_rs (co_field ht hd (i := 1) rfl rfl)
  have b3 := sl_size hsz s3 Tryz.underlying32 by_mo (co_field ht hd (i := 2) rfl rfl)
  have b4 := sl_size hsz s4 Tryz.underlying32 by_mo (co_field ht hd (i := 3) rfl rfl)
  have b5 := sl_size hsz s5 Tryz.underlying33 by_ln (co_field ht hd (i := 4) rfl rfl)
  have b6 := sl_size hsz s6 Tryz.underlying25 Tryz.by4 (co_field ht hd (i := 5) rfl rfl)
  exact ⟨h.own, h.rts, h.pts, h.crs, h.lns, h.rss, b1, b2, b3, b4, b5, b6⟩
end
end Go.Proofs.YtginfnbdnkgjbaaGreat.Nk

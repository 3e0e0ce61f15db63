/- The contract of core's Approached: is the section the approach of a locked route? -/
import Derived.Test.YtnnacdkijeoeoaaKe
import Derived.Test.YtnnacdkijeoeoaaLp
import Derived.Deep.LoopGhost
namespace Go.Proofs.Ytnnacdkijeoeoaa.Lk
open Go.RowKit

theorem nine9 {w : World} {b : Nat} {v0 v1 v2 v3 v4 v5 v6 v7 v8 : Value} {t : TypeId} (h : Is w b t #[v0, v1, v2, v3, v4, v5, v6, v7, v8]) : w.cell? ⟨b, 0, none⟩ = some v0 ∧ w.cell? ⟨b, 1, none⟩ = some v1 ∧ w.cell? ⟨b, 2, none⟩ = some v2 ∧ w.cell? ⟨b, 3, none⟩ = some v3 ∧ w.cell? ⟨b, 4, none⟩ = some v4 ∧ w.cell? ⟨b, 5, none⟩ = some v5 ∧ w.cell? ⟨b, 6, none⟩ = some v6 ∧ w.cell? ⟨b, 7, none⟩ = some v7 ∧ w.cell? ⟨b, 8, none⟩ = some v8 :=
  ⟨h.cell 0, h.cell 1, h.cell 2, h.cell 3, h.cell 4, h.cell 5, h.cell 6, h.cell 7, h.cell 8⟩
set_option maxRecDepth 100000 in
set_option maxHeartbeats 4000000 in
theorem approached_any (C : Cm) (K : Km) {w : World} (hC : C.Ok w) (hK : Rd w K.A2 (K.rts.flatMap cRs)) (hlr : K.rts.length = C.rs.length) (s : Int) :
    Calls Try.prog 47 #[C.val, K.val, .int .i64 s] w fun e w' => e = .returned (.bool (aheadB C.sg (C.rs.map Ro.rt) K.rts s)) ∧ Fr (fun _ => False) w w' := by
  generalize hT : aheadB C.sg (C.rs.map Ro.rt) K.rts s = T
  have HT := Lib.hid hT
  have HF0 := Lib.hid (((Fr.refl (fun _ => False) w).alloc (.cells C.arr 30)).alloc (.cells K.arr 35))
  have HI := Lib.hid ((Is.new w 30 C.arr).alloc (.cells K.arr 35))
  have hJ := Is.new (w.alloc (.cells C.arr 30)) 35 K.arr
  rw [show (w.alloc (.cells C.arr 30)).heap.size = w.heap.size + 1 by simp] at hJ
  have c1 : ((w.alloc (.cells C.arr 30)).alloc (.cells K.arr 35)).cell? ⟨w.heap.size + 1, 1, none⟩ = some (.slice K.A2 K.rts.length K.c2) := hJ.cell 1
  have HC := Lib.hid hC
  have HK := Lib.hid hK
  have hb : K.rts.length ≤ 9223372036854775807 := by have := hC.b5; omega
  have HLR := Lib.hid hlr
  clear hlr hT hC hK hJ
  unfold Cm.val Cm.arr Km.val Km.arr at *
  go_enter Try.func47, Try.ntmps47
  go_upto_region 1 with fail
  generalize (w.alloc _).alloc _ = w1 at *
  go_wp2_with fail
  clear c1
  go_loopg [7, 8, 12] K.rts.length (fun gi _ _ v12 wr => ∃ k : Nat, k ≤ K.rts.length ∧ gi = K.rts.length - k ∧ v12 = .int .i64 (k : Nat) ∧ aheadB C.sg ((C.rs.drop k).map Ro.rt) (K.rts.drop k) s = T ∧ Fr (fun _ => False) w1 wr)
  case atStart => exact ⟨0, Nat.zero_le _, rfl, rfl, HT.out, Fr.refl _ _⟩
  case round =>
    clear HT
    obtain ⟨k, hk, rfl, rfl, hT, f⟩ := hrel
    by_cases hlt : k < K.rts.length
    · have hlt' : k < C.rs.length := by have := HLR.out; omega
      have HLT := Lib.hid hlt
      obtain ⟨g, o9, hA, q0, q1, q2, q3⟩ := rd_rs (HK.out.fr (fr_nil HF0.out f) fun _ _ => id) hlt
      rw [List.drop_eq_getElem_cons hlt, List.drop_eq_getElem_cons hlt', List.map_cons, aheadB] at hT
      generalize hR : aheadB C.sg ((C.rs.drop (k + 1)).map Ro.rt) (K.rts.drop (k + 1)) s = R at hT
      have HR := Lib.hid hR
      clear hR
      have KA : ∀ W, Fr (fun _ => False) w1 W → Calls Try.prog 65 #[C.val, .int .i64 (k : Int)] W fun e w' => e = .returned (.int .i64 (apM C.sg C.rs[k].entry)) ∧ Fr (fun _ => False) W w' := fun W fW => by
        have := appr_any C (k : Int) W (HC.out.fr (fr_nil HF0.out fW))
        unfold apR at this
        rwa [if_pos (by unfold isSecB; simp; omega), Int.toNat_natCast, rs_at hlt'] at this
      unfold Cm.val Cm.arr at KA
      have hT : (!decide (K.rts[k].st = 0) && decide (apM C.sg C.rs[k].entry = s) || R) = T := hT
      generalize apM C.sg C.rs[k].entry = ap at *
      have f1 := f.alloc (.cells #[.int .i64 K.rts[k].st, .int .i64 K.rts[k].since, .int .i64 K.rts[k].nxt, .int .i64 K.rts[k].mark] 87)
      have is1 := Is.new wr 87 #[.int .i64 K.rts[k].st, .int .i64 K.rts[k].since, .int .i64 K.rts[k].nxt, .int .i64 K.rts[k].mark]
      generalize K.rts[k] = x at *
      obtain ⟨x0, x1, x2, x3⟩ := x
      dsimp only at q0 q1 q2 q3 hT f1 is1
      have i1 : (0 : Int) ≤ (k : Int) := by omega
      have i2 : (k : Int) < (K.rts.length : Int) := by omega
      rw [hA]
      have HA := Lib.hid hA
      have HF1 := Lib.hid f1
      have HI1 := Lib.hid is1
      clear hA f1 is1 f
      go_upto_region 4 with fail
      have f1 := HF1.out
      have b0 : (wr.alloc (.cells #[.int .i64 x0, .int .i64 x1, .int .i64 x2, .int .i64 x3] 87)).cell? ⟨wr.heap.size, 0, none⟩ = some (.int .i64 x0) := HI1.out.cell 0
      clear HI1 HF1 q0 q1 q2 q3
      generalize wr.alloc _ = wb at *
      have HF1 := Lib.hid f1
      obtain ⟨p0, p1, p2, p3, p4, p5, p6, p7, p8⟩ := nine9 ((HI.out.fr f1 id))
      clear f1
      by_cases hx : x0 = 0
      · subst hx
        have hT : R = T := by simpa using hT
        have HT := Lib.hid hT
        clear hT KA
        go_wp2_with fail
        rw [← HA.out]
        go_roundg (K.rts.length - (k + 1))
        case measure => have := HLT.out; omega
        case rel => exact ⟨k + 1, HLT.out, rfl, by go_num, HR.out.trans HT.out, HF1.out⟩
      · have e1 : (x0 == 0) = false := by simpa using hx
        have e2 : decide (x0 = 0) = false := by simpa using hx
        rw [e2, Bool.not_false, Bool.true_and] at hT
        by_cases hp : ap = s
        · subst hp
          rw [decide_eq_true rfl, Bool.true_or] at hT
          subst hT
          have HKA := Lib.hid (KA _ HF1.out)
          clear KA
          go_wp2_with fail
          refine HKA.out.mono ?_
          rintro e v ⟨rfl, fv⟩
          have HFV := Lib.hid fv
          clear fv p0 p1 p2 p3 p4 p5 p6 p7 p8
          go_wp2_with fail
          go_ret
          exact ⟨rfl, fr_nil HF0.out (fr_nil HF1.out HFV.out)⟩
        · have e3 : (ap == s) = false := by simpa using hp
          have e4 : decide (ap = s) = false := by simpa using hp
          rw [e4, Bool.false_or] at hT
          have HT := Lib.hid hT
          have HKA := Lib.hid (KA _ HF1.out)
          clear KA hT
          go_wp2_with fail
          refine HKA.out.mono ?_
          rintro e v ⟨rfl, fv⟩
          have HFV := Lib.hid fv
          clear fv p0 p1 p2 p3 p4 p5 p6 p7 p8
          go_wp2_with fail
          rw [← HA.out]
          go_roundg (K.rts.length - (k + 1))
          case measure => have := HLT.out; omega
          case rel => exact ⟨k + 1, HLT.out, rfl, by go_num, HR.out.trans HT.out, fr_nil HF1.out HFV.out⟩
    · rw [List.drop_eq_nil_of_le (show K.rts.length ≤ k by omega)] at hT
      obtain rfl : T = false := by rw [← hT]; cases (C.rs.drop k).map Ro.rt <;> rfl
      go_wp2_with fail
      go_ret
      exact ⟨rfl, fr_nil HF0.out f⟩
end Go.Proofs.Ytnnacdkijeoeoaa.Lk

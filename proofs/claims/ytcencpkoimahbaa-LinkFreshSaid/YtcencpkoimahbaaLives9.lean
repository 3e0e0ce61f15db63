/- The contract of the laws' first line: example 1. -/
import Derived.Test.YtcencpkoimahbaaRecvt
namespace Go.Proofs.Ytcencpkoimahbaa
open Go.RowKit Li

theorem lives_tel : (makeL 3 1 7 [120]).2 = 0 := by
  rw [make_fine (by decide) (by decide)]
theorem lives_one : (R.new 3 2).take 9 ⟨3, 1, 7, [120], 0⟩ = ([120], 0, ⟨true, 1, 0, 3, 2, 7⟩) := by rfl
theorem lives_two : (R.mk true 1 0 3 2 7).take 9 ⟨3, 1, 7, [120], 0⟩ = ([], 18, ⟨true, 1, 0, 3, 2, 7⟩) := by rfl
theorem of_one : Sq.ofZ (0 + 1) = 1 := rfl

set_option maxRecDepth 100000 in
set_option maxHeartbeats 1000000 in
theorem lives_any (w : World) : Calls Try.prog 10 #[] w fun e w' => e = .returned (.bool true) ∧ Fr (fun _ => False) w w' := by
  have hrd := read_make lives_tel
  have K1 := newsend_any 3 w
  have K2 := fun W => newrecv_any 3 2 W
  have KS : ∀ W b, Sd W b 0 3 → _ := fun W b h => send_any (b := b) h 7 ⟨#[120]⟩
  rw [of_one, show bytesOf ⟨#[120]⟩ = [120] from rfl, lives_tel] at KS
  obtain ⟨t, ht⟩ : ∃ t : ByteArray, t = ⟨(makeL 3 1 7 [120]).1.toArray⟩ := ⟨_, rfl⟩
  have hbt : bytesOf t = (makeL 3 1 7 [120]).1 := by rw [ht]; rfl
  rw [← ht] at KS
  have KT : ∀ W b, Rv W b (R.new 3 2) → _ := fun W b h => take_any (b := b) h 9 t (by decide) (by decide) (by decide)
  rw [hbt, hrd, lives_one] at KT
  have KT2 : ∀ W b, Rv W b ⟨true, 1, 0, 3, 2, 7⟩ → _ := fun W b h => take_any (b := b) h 9 t (by decide) (by decide) (by decide)
  rw [hbt, hrd, lives_two] at KT2
  have HKS := Lib.hid KS
  have HKT := Lib.hid KT
  have HKT2 := Lib.hid KT2
  clear hbt ht hrd KS KT KT2
  obtain ⟨sb, hsb⟩ : ∃ sb, sb = w.heap.size := ⟨_, rfl⟩
  rw [← hsb] at K1
  have HS : Hid (w.heap.size ≤ sb) := Lib.hid (by omega)
  clear hsb
  go_enter Try.func10, Try.ntmps10
  go_wp2_with fail
  refine K1.mono ?_
  rintro e w1 ⟨rfl, i1, f1⟩
  have K2' := K2 w1
  obtain ⟨rb, hrb⟩ : ∃ rb, rb = w1.heap.size := ⟨_, rfl⟩
  rw [← hrb] at K2'
  have HR : Hid (w.heap.size ≤ rb ∧ sb < rb) := Lib.hid ⟨by have := f1.size; omega, by have := i1.lt; omega⟩
  have HI1 := Lib.hid i1
  have HF1 := Lib.hid f1
  clear hrb K1 K2 i1 f1
  go_wp2_with fail
  refine K2'.mono ?_
  rintro e w2 ⟨rfl, i2, f2⟩
  have s2 := HI1.out.fr f2 id
  have HF2 := Lib.hid (HF1.out.trans f2 fun _ _ h => h)
  have KL := last_any i2
  have HI2 := Lib.hid i2
  have HS2 := Lib.hid s2
  clear K2' i2 f2 s2 HF1 HI1
  go_wp2_with fail
  refine KL.mono ?_
  rintro e w3 ⟨rfl, rfl⟩
  have KS := HKS.out _ _ HS2.out
  clear KL HKS HS2
  go_wp2_with fail
  refine KS.mono ?_
  rintro e w3 ⟨rfl, i3, f3⟩
  have r3 := HI2.out.fr f3 (by have := HR.out; omega)
  have HF3 := Lib.hid (HF2.out.trans f3 fun j hj h => by have := HS.out; omega)
  have KT := HKT.out _ _ r3
  clear KS HKT HI2 HF2 i3 f3 r3
  go_wp2_with fail
  refine KT.mono ?_
  rintro e w4 ⟨rfl, i4, f4⟩
  have HF4 := Lib.hid (HF3.out.trans f4 fun j hj h => by have := HR.out; omega)
  have KT2 := HKT2.out _ _ i4
  clear KT HKT2 HF3 i4 f4
  go_wp2_with fail
  refine KT2.mono ?_
  rintro e w5 ⟨rfl, i5, f5⟩
  have HF5 := Lib.hid (HF4.out.trans f5 fun j hj h => by have := HR.out; omega)
  clear KT2 HF4 f5
  go_wp2_with fail
  have KA := alive_any i5 9 (by decide)
  rw [show (R.mk true 1 0 3 2 7).alive 9 = true from rfl] at KA
  refine KA.mono ?_
  rintro e w6 ⟨rfl, n6, rfl⟩
  have i6 : Rv (w5.drewN n6) rb ⟨true, 1, 0, 3, 2, 7⟩ := i5
  have HF6 := Lib.hid (HF5.out.drewN n6)
  generalize w5.drewN n6 = w6 at *
  have KB := alive_any i6 10 (by decide)
  rw [show (R.mk true 1 0 3 2 7).alive 10 = false from rfl] at KB
  clear KA HF5 i5
  go_wp2_with fail
  refine KB.mono ?_
  rintro e w7 ⟨rfl, n7, rfl⟩
  have i7 : Rv (w6.drewN n7) rb ⟨true, 1, 0, 3, 2, 7⟩ := i6
  have HF7 := Lib.hid (HF6.out.drewN n7)
  generalize w6.drewN n7 = w7 at *
  have KC := last_any i7
  clear KB HF6 i6
  go_wp2_with fail
  refine KC.mono ?_
  rintro e w8 ⟨rfl, rfl⟩
  go_wp2_with fail
  go_ret
  exact ⟨rfl, HF7.out⟩
end Go.Proofs.Ytcencpkoimahbaa

/- The walk of LinkAges: which stamps are taken. -/
import Derived.Test.YtcencpkoimahbaaLives9
namespace Go.Proofs.Ytcencpkoimahbaa
open Go.RowKit Li

theorem ages_tel (p : Nat) (s : Int) (hp : p < 255) (h0 : 0 ≤ s) (h1 : s ≤ 2000) : (makeL p 7 s [112]).2 = 0 := by
  have hf : fitsB p 7 s = true := by
    unfold fitsB
    rw [Pa.fits_of (width := 1) (by omega) (by show (p : Int) < 256; omega), Pa.fits_of (width := 4) h0 (by show s < 4294967296; omega)]
    rfl
  rw [make_fine hf (by decide)]
theorem new_take (q a now p n s : Int) (x : List UInt8) : (R.new q a).take now ⟨p, n, s, x, 0⟩ = if (R.new q a).refuse now p s ≠ 0 then ([], (R.new q a).refuse now p s, R.new q a) else (x, 0, ⟨true, n, 0, q, a, s⟩) := by
  unfold R.take
  rw [if_neg (by simp)]
  rfl
theorem alive_yes {r : R} {now : Int} (h0 : 0 ≤ r.last) (h1 : r.last ≤ now) (h2 : now - r.last ≤ r.age) : r.alive now = true := by
  unfold R.alive
  rw [decide_eq_true h0, decide_eq_true h1, decide_eq_true h2]
  rfl
theorem alive_not {r : R} {now : Int} (h2 : ¬ now - r.last ≤ r.age) : r.alive now = false := by
  unfold R.alive
  rw [decide_eq_false h2, Bool.and_false, Bool.and_false]
set_option maxRecDepth 100000 in
set_option maxHeartbeats 2000000 in
theorem ages_walk (peer age ago : Int) (w : World) :
    Calls Try.prog 7 #[.int .i64 peer, .int .i64 age, .int .i64 ago] w fun e w' => e = .returned (.bool true) ∧ Below w.heap.size w w' := by
  obtain ⟨p, hp', hp1⟩ := Se.umod peer 255 (by decide) (by decide)
  obtain ⟨a, ha', ha1⟩ := Se.umod age 100 (by decide) (by decide)
  obtain ⟨g, hg', hg1⟩ := Se.umod ago 210 (by decide) (by decide)
  have hp : wrap64 ((IntKind.u64.wrap peer).tmod 255) = p := hp'
  have ha : wrap64 ((IntKind.u64.wrap age).tmod 100) = a := ha'
  have hg : wrap64 ((IntKind.u64.wrap ago).tmod 210) = g := hg'
  clear hp' ha' hg'
  have hw1 : wrap64 ((g : Int) - 100) = g - 100 := IntWalk.wrap64_in _ ⟨by omega, by omega⟩
  have KL := lives_any w
  have ht := ages_tel p (1100 - g) hp1 (by omega) (by omega)
  have hrd := read_make ht
  have KM := fun W => make_any p 7 (1100 - g) ⟨#[112]⟩ W
  rw [show bytesOf ⟨#[112]⟩ = [112] from rfl, ht] at KM
  obtain ⟨t, htt⟩ : ∃ t : ByteArray, t = ⟨(makeL p 7 (1100 - g) [112]).1.toArray⟩ := ⟨_, rfl⟩
  have hbt : bytesOf t = (makeL p 7 (1100 - g) [112]).1 := by rw [htt]; rfl
  rw [← htt] at KM
  have hg2 : wrap64 ((1000 : Int) - ((g : Int) - 100)) = 1100 - g := by rw [IntWalk.wrap64_in _ ⟨by omega, by omega⟩]; omega
  have KT : ∀ W b q, Rv W b (R.new q a) → _ := fun W b q h => take_any (b := b) h 1000 t (by decide) (by show (0 : Int) ≤ 0; decide) (by show (0 : Int) ≤ _; decide)
  rw [hbt, hrd] at KT
  simp only [new_take] at KT
  have hr0 : (R.new p a).refuse 1000 p (1100 - g) = if (g : Int) < 100 then 19 else if (a : Int) < g - 100 then 17 else 0 := by
    unfold R.refuse R.new
    simp only
    rw [if_neg (by simp)]
    by_cases h1 : (g : Int) < 100
    · rw [if_pos h1, if_pos (by omega)]
    · rw [if_neg h1, if_neg (by omega)]
      by_cases h2 : (a : Int) < g - 100
      · rw [if_pos h2, if_pos (by omega)]
      · rw [if_neg h2, if_neg (by omega), if_neg (by omega)]
  have hr1 : (R.new ((p : Int) + 1) a).refuse 1000 p (1100 - g) = 16 := by
    unfold R.refuse R.new
    simp only
    rw [if_pos (by omega)]
  have KT0 := fun W b h => KT W b p h
  have KT1 := fun W b h => KT W b ((p : Int) + 1) h
  rw [hr0] at KT0
  rw [hr1, if_pos (by decide)] at KT1
  have K1 := fun W => newrecv_any p a W
  have K2 := fun W => newrecv_any ((p : Int) + 1) a W
  have H0 := Lib.hid KT0
  have H1 := Lib.hid KT1
  have HG2 := Lib.hid hg2
  have HP := Lib.hid hp
  have HA := Lib.hid ha
  have HG := Lib.hid hg
  have HW := Lib.hid hw1
  clear hp ha hg hw1
  clear KT KT0 KT1 hr0 hr1 ht hrd hbt htt
  clear hg2
  by_cases h1 : (g : Int) < 100
  · rw [if_pos h1, if_pos (show (19 : Int) ≠ 0 by decide)] at H0
    have hneg : (g : Int) - 100 < 0 := by omega
    go_enter Try.func7, Try.ntmps7
    go_wp2_with fail
    refine KL.mono ?_
    rintro e w1 ⟨rfl, f1⟩
    have HF1 := Lib.hid f1
    clear KL f1
    go_wp2_with fail
    rw [HP.out, HA.out, HG.out, HW.out, HG2.out]
    clear HP HA HG HW
    refine (KM _).mono ?_
    rintro e w2 ⟨rfl, f2⟩
    have HF2 := Lib.hid (HF1.out.trans f2 fun _ _ h => h)
    clear KM HF1 f2 HG2
    go_wp2_with fail
    have K1' := K1 w2
    obtain ⟨rb, hrb⟩ : ∃ rb, rb = w2.heap.size := ⟨_, rfl⟩
    rw [← hrb] at K1'
    have HR : Hid (w.heap.size ≤ rb) := Lib.hid (by have := HF2.out.size; omega)
    clear hrb K1
    refine K1'.mono ?_
    rintro e w3 ⟨rfl, i3, f3⟩
    have HF3 := Lib.hid (HF2.out.trans f3 fun _ _ h => h)
    have HI3 := Lib.hid i3
    clear K1' HF2 i3 f3
    go_wp2_with fail
    have K2' := K2 w3
    obtain ⟨ob, hob⟩ : ∃ ob, ob = w3.heap.size := ⟨_, rfl⟩
    rw [← hob] at K2'
    have HO : Hid (w.heap.size ≤ ob ∧ rb < ob) := Lib.hid ⟨by have := HF3.out.size; omega, by have := HI3.out.lt; omega⟩
    clear hob K2
    refine K2'.mono ?_
    rintro e w4 ⟨rfl, o4, f4⟩
    have HF4 := Lib.hid (HF3.out.trans f4 fun _ _ h => h)
    have i4 := HI3.out.fr f4 id
    have HO4 := Lib.hid o4
    have KT0 := H0.out _ _ i4
    clear K2' HF3 o4 f4 HI3 i4 H0
    go_wp2_with fail
    refine KT0.mono ?_
    rintro e w5 ⟨rfl, i5, f5⟩
    have HF5 := Lib.hid (HF4.out.trans f5 fun j hj h => by have := HR.out; omega)
    have o5 := HO4.out.fr f5 (by have := HO.out; omega)
    have KT1 := H1.out _ _ o5
    have HI5 := Lib.hid i5
    clear KT0 HF4 HO4 i5 f5 H1 o5
    go_wp2_with fail
    refine KT1.mono ?_
    rintro e w6 ⟨rfl, _, f6⟩
    have HF6 := Lib.hid (HF5.out.trans f6 fun j hj h => by have := HO.out; omega)
    have i6 := HI5.out.fr f6 (by have := HO.out; omega)
    clear KT1 HF5 HI5 f6
    go_wp2_with fail
    have KA := alive_any i6 (1000) (by omega)
    rw [show (R.new p a).alive (1000) = false from rfl] at KA
    refine KA.mono ?_
    rintro e w7 ⟨rfl, n7, rfl⟩
    have i7 : Rv (w6.drewN n7) rb (R.new p a) := i6
    have HF7 := Lib.hid (HF6.out.drewN n7)
    clear KA i6 HF6
    generalize w6.drewN n7 = w7 at *
    go_wp2_with fail
    go_ret
    exact ⟨rfl, HF7.out.toBelow0⟩
  · rw [if_neg h1] at H0
    by_cases h2 : (a : Int) < (g : Int) - 100
    · rw [if_pos h2, if_pos (show (17 : Int) ≠ 0 by decide)] at H0
      have hpos : ¬ (g : Int) - 100 < 0 := by omega
      have hd : decide ((g : Int) - 100 ≤ a) = false := decide_eq_false (by omega)
      go_enter Try.func7, Try.ntmps7
      go_wp2_with fail
      refine KL.mono ?_
      rintro e w1 ⟨rfl, f1⟩
      have HF1 := Lib.hid f1
      clear KL f1
      go_wp2_with fail
      rw [HP.out, HA.out, HG.out, HW.out, HG2.out]
      clear HP HA HG HW
      refine (KM _).mono ?_
      rintro e w2 ⟨rfl, f2⟩
      have HF2 := Lib.hid (HF1.out.trans f2 fun _ _ h => h)
      clear KM HF1 f2 HG2
      go_wp2_with fail
      have K1' := K1 w2
      obtain ⟨rb, hrb⟩ : ∃ rb, rb = w2.heap.size := ⟨_, rfl⟩
      rw [← hrb] at K1'
      have HR : Hid (w.heap.size ≤ rb) := Lib.hid (by have := HF2.out.size; omega)
      clear hrb K1
      refine K1'.mono ?_
      rintro e w3 ⟨rfl, i3, f3⟩
      have HF3 := Lib.hid (HF2.out.trans f3 fun _ _ h => h)
      have HI3 := Lib.hid i3
      clear K1' HF2 i3 f3
      go_wp2_with fail
      have K2' := K2 w3
      obtain ⟨ob, hob⟩ : ∃ ob, ob = w3.heap.size := ⟨_, rfl⟩
      rw [← hob] at K2'
      have HO : Hid (w.heap.size ≤ ob ∧ rb < ob) := Lib.hid ⟨by have := HF3.out.size; omega, by have := HI3.out.lt; omega⟩
      clear hob K2
      refine K2'.mono ?_
      rintro e w4 ⟨rfl, o4, f4⟩
      have HF4 := Lib.hid (HF3.out.trans f4 fun _ _ h => h)
      have i4 := HI3.out.fr f4 id
      have HO4 := Lib.hid o4
      have KT0 := H0.out _ _ i4
      clear K2' HF3 o4 f4 HI3 i4 H0
      go_wp2_with fail
      refine KT0.mono ?_
      rintro e w5 ⟨rfl, i5, f5⟩
      have HF5 := Lib.hid (HF4.out.trans f5 fun j hj h => by have := HR.out; omega)
      have o5 := HO4.out.fr f5 (by have := HO.out; omega)
      have KT1 := H1.out _ _ o5
      have HI5 := Lib.hid i5
      clear KT0 HF4 HO4 i5 f5 H1 o5
      go_wp2_with fail
      refine KT1.mono ?_
      rintro e w6 ⟨rfl, _, f6⟩
      have HF6 := Lib.hid (HF5.out.trans f6 fun j hj h => by have := HO.out; omega)
      have i6 := HI5.out.fr f6 (by have := HO.out; omega)
      clear KT1 HF5 HI5 f6
      go_wp2_with fail
      have KA := alive_any i6 (1000) (by omega)
      rw [show (R.new p a).alive (1000) = false from rfl] at KA
      refine KA.mono ?_
      rintro e w7 ⟨rfl, n7, rfl⟩
      have i7 : Rv (w6.drewN n7) rb (R.new p a) := i6
      have HF7 := Lib.hid (HF6.out.drewN n7)
      clear KA i6 HF6
      generalize w6.drewN n7 = w7 at *
      go_wp2_with fail
      go_ret
      exact ⟨rfl, HF7.out.toBelow0⟩
    · rw [if_neg h2, if_neg (show ¬ (0 : Int) ≠ 0 by decide)] at H0
      have hpos : (0 : Int) ≤ (g : Int) - 100 := by omega
      have hd : decide ((g : Int) - 100 ≤ a) = true := decide_eq_true (by omega)
      go_enter Try.func7, Try.ntmps7
      go_wp2_with fail
      refine KL.mono ?_
      rintro e w1 ⟨rfl, f1⟩
      have HF1 := Lib.hid f1
      clear KL f1
      go_wp2_with fail
      rw [HP.out, HA.out, HG.out, HW.out, HG2.out]
      clear HP HA HG HW
      refine (KM _).mono ?_
      rintro e w2 ⟨rfl, f2⟩
      have HF2 := Lib.hid (HF1.out.trans f2 fun _ _ h => h)
      clear KM HF1 f2 HG2
      go_wp2_with fail
      have K1' := K1 w2
      obtain ⟨rb, hrb⟩ : ∃ rb, rb = w2.heap.size := ⟨_, rfl⟩
      rw [← hrb] at K1'
      have HR : Hid (w.heap.size ≤ rb) := Lib.hid (by have := HF2.out.size; omega)
      clear hrb K1
      refine K1'.mono ?_
      rintro e w3 ⟨rfl, i3, f3⟩
      have HF3 := Lib.hid (HF2.out.trans f3 fun _ _ h => h)
      have HI3 := Lib.hid i3
      clear K1' HF2 i3 f3
      go_wp2_with fail
      have K2' := K2 w3
      obtain ⟨ob, hob⟩ : ∃ ob, ob = w3.heap.size := ⟨_, rfl⟩
      rw [← hob] at K2'
      have HO : Hid (w.heap.size ≤ ob ∧ rb < ob) := Lib.hid ⟨by have := HF3.out.size; omega, by have := HI3.out.lt; omega⟩
      clear hob K2
      refine K2'.mono ?_
      rintro e w4 ⟨rfl, o4, f4⟩
      have HF4 := Lib.hid (HF3.out.trans f4 fun _ _ h => h)
      have i4 := HI3.out.fr f4 id
      have HO4 := Lib.hid o4
      have KT0 := H0.out _ _ i4
      clear K2' HF3 o4 f4 HI3 i4 H0
      go_wp2_with fail
      refine KT0.mono ?_
      rintro e w5 ⟨rfl, i5, f5⟩
      have HF5 := Lib.hid (HF4.out.trans f5 fun j hj h => by have := HR.out; omega)
      have o5 := HO4.out.fr f5 (by have := HO.out; omega)
      have KT1 := H1.out _ _ o5
      have HI5 := Lib.hid i5
      clear KT0 HF4 HO4 i5 f5 H1 o5
      go_wp2_with fail
      refine KT1.mono ?_
      rintro e w6 ⟨rfl, _, f6⟩
      have HF6 := Lib.hid (HF5.out.trans f6 fun j hj h => by have := HO.out; omega)
      have i6 := HI5.out.fr f6 (by have := HO.out; omega)
      clear KT1 HF5 HI5 f6
      go_wp2_with fail
      have KZ := last_any i6
      refine KZ.mono ?_
      rintro e w6 ⟨rfl, rfl⟩
      clear KZ
      go_wp2_with fail
      have KA := alive_any i6 (1000) (by omega)
      rw [show (R.mk true 7 0 p a (1100 - (g : Int))).alive (1000) = true from alive_yes (by simp only; omega) (by simp only; omega) (by simp only; omega)] at KA
      refine KA.mono ?_
      rintro e w7 ⟨rfl, n7, rfl⟩
      have i7 : Rv (w6.drewN n7) rb (R.mk true 7 0 p a (1100 - (g : Int))) := i6
      have HF7 := Lib.hid (HF6.out.drewN n7)
      clear KA i6 HF6
      generalize w6.drewN n7 = w7 at *
      go_wp2_with fail
      have KA := alive_any i7 ((1000 : Int) - ((g : Int) - 100) + a) (by omega)
      rw [show (R.mk true 7 0 p a (1100 - (g : Int))).alive ((1000 : Int) - ((g : Int) - 100) + a) = true from alive_yes (by simp only; omega) (by simp only; omega) (by simp only; omega)] at KA
      refine KA.mono ?_
      rintro e w8 ⟨rfl, n8, rfl⟩
      have i8 : Rv (w7.drewN n8) rb (R.mk true 7 0 p a (1100 - (g : Int))) := i7
      have HF8 := Lib.hid (HF7.out.drewN n8)
      clear KA i7 HF7
      generalize w7.drewN n8 = w8 at *
      go_wp2_with fail
      have KA := alive_any i8 ((1001 : Int) - ((g : Int) - 100) + a) (by omega)
      rw [show (R.mk true 7 0 p a (1100 - (g : Int))).alive ((1001 : Int) - ((g : Int) - 100) + a) = false from alive_not (by simp only; omega)] at KA
      refine KA.mono ?_
      rintro e w9 ⟨rfl, n9, rfl⟩
      have i9 : Rv (w8.drewN n9) rb (R.mk true 7 0 p a (1100 - (g : Int))) := i8
      have HF9 := Lib.hid (HF8.out.drewN n9)
      clear KA i8 HF8
      generalize w8.drewN n9 = w9 at *
      go_wp2_with fail
      go_ret
      exact ⟨rfl, HF9.out.toBelow0⟩
end Go.Proofs.Ytcencpkoimahbaa

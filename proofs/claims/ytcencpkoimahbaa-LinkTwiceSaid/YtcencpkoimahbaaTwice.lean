/- The walk of LinkTwice: each telegram is taken once, in its order. -/
import Derived.Test.YtcencpkoimahbaaLives9
import Derived.Test.YtcencpkoimahbaaApp
import Derived.Test.YtcencpkoimahbaaWide
namespace Go.Proofs.Ytcencpkoimahbaa
open Go.RowKit Li

/-- a receiver that took i telegrams in a row, at the times 0, 1, .. -/
def RT (p i : Nat) : R := ⟨decide (0 < i), i, 0, p, 50, (i : Int) - 1⟩
theorem rt_zero (p : Nat) : R.new p 50 = RT p 0 := rfl
theorem twice_take (p i : Nat) (hi : i ≤ 40) (x : List UInt8) : (RT p i).take i ⟨p, (i : Int) + 1, i, x, 0⟩ = (x, 0, RT p (i + 1)) := by
  have hr : (RT p i).refuse i p i = 0 := by
    unfold R.refuse RT
    simp only
    rw [if_neg (by simp), if_neg (by omega), if_neg (by omega), if_neg (by omega)]
  rw [take_ok (t := ⟨p, (i : Int) + 1, i, x, 0⟩) rfl hr]
  have ha : (({ RT p i with last := (i : Int) } : R).add ((i : Int) + 1)) = RT p (i + 1) := by
    unfold R.add RT
    by_cases h0 : 0 < i
    · have hg : Sq.gapZ (i : Int) ((i : Int) + 1) = 1 := by unfold Sq.gapZ; omega
      have hs : Sq.lostStep (0, (i : Int)) ((i : Int) + 1) = (0, (i : Int) + 1) := by
        unfold Sq.lostStep
        simp only
        rw [hg, if_pos (by decide)]
        rfl
      simp only [h0, decide_true, if_true, hs]
      simp
    · have : i = 0 := by omega
      subst this
      simp
  rw [ha]
theorem twice_again (p i : Nat) (hi : i ≤ 40) (n s : Int) (h0 : 0 ≤ s) (h1 : s ≤ i) (x : List UInt8) : (RT p (i + 1)).take i ⟨p, n, s, x, 0⟩ = ([], 18, RT p (i + 1)) := by
  have hr : (RT p (i + 1)).refuse i p s = 18 := by
    unfold R.refuse RT
    simp only
    rw [if_neg (by simp), if_neg (by omega), if_neg (by omega), if_pos (by omega)]
  rw [take_no (t := ⟨p, n, s, x, 0⟩) rfl (by show (RT p (i + 1)).refuse i p s ≠ 0; rw [hr]; decide)]
  show ([], (RT p (i + 1)).refuse i p s, RT p (i + 1)) = _
  rw [hr]
theorem twice_tel (p i : Nat) (hp : p < 256) (hi : i ≤ 40) (x : ByteArray) (hx : x.size ≤ 200) : (makeL p ((i : Int) + 1) i (bytesOf x)).2 = 0 := by
  have hf : fitsB p ((i : Int) + 1) i = true := by
    unfold fitsB
    rw [Pa.fits_of (width := 1) (by omega) (by show (p : Int) < 256; omega), Pa.fits_of (width := 2) (by omega) (by show (i : Int) + 1 < 65536; omega), Pa.fits_of (width := 4) (by omega) (by show (i : Int) < 4294967296; omega)]
    rfl
  rw [make_fine hf (by rw [bytesOf_length]; omega)]
theorem Try.infoTx : (Try.prog.info? 9).map (fun i => (i.zero, i.size, i.bytes)) = some (some (.string .empty), 1, 16) := by kernel_rfl

/-- what was sent before is known, and older -/
def Old (p i : Nat) (x : ByteArray) : Prop := ∃ (n s : Int) (y : List UInt8), readL (bytesOf x) = ⟨p, n, s, y, 0⟩ ∧ 0 ≤ s ∧ s < i

set_option maxRecDepth 100000 in
set_option maxHeartbeats 4000000 in
theorem twice_walk (peer : Int) (A : Option Addr) (c : Nat) (l : List ByteArray) (w : World) (hl : Rd w A (l.map Value.string)) (hn : l.length ≤ 140737488351232) :
    Calls Try.prog 8 #[.int .i64 peer, .slice A l.length c] w fun e w' => e = .returned (.bool true) ∧ Below w.heap.size w w' := by
  obtain ⟨p, hp', hp⟩ := Se.umod peer 256 (by decide) (by decide)
  have hpe : wrap64 ((IntKind.u64.wrap peer).tmod 256) = p := hp'
  obtain ⟨i2, hj, hy0, hy1, hy2⟩ := info_parts Try.infoTx
  have HP := Lib.hid hpe
  clear hp' hpe
  have KL := lives_any w
  have K1 := fun W => newsend_any p W
  have K2 := fun W => newrecv_any p 50 W
  rw [rt_zero] at K2
  go_enter Try.func8, Try.ntmps8
  go_wp2_with fail
  refine KL.mono ?_
  rintro e w1 ⟨rfl, f1⟩
  have K1' := K1 w1
  obtain ⟨sb, hsb⟩ : ∃ sb, sb = w1.heap.size := ⟨_, rfl⟩
  rw [← hsb] at K1'
  have HS : Hid (w.heap.size ≤ sb) := Lib.hid (by have := f1.size; omega)
  have HF1 := Lib.hid f1
  clear hsb K1 KL f1
  go_wp2_with fail
  rw [HP.out]
  refine K1'.mono ?_
  rintro e w2 ⟨rfl, i2s, f2⟩
  have HF2 := Lib.hid (HF1.out.trans f2 fun _ _ h => h)
  have HI2 := Lib.hid i2s
  have K2' := K2 w2
  obtain ⟨rb, hrb⟩ : ∃ rb, rb = w2.heap.size := ⟨_, rfl⟩
  rw [← hrb] at K2'
  have HR : Hid (w.heap.size ≤ rb ∧ sb < rb) := Lib.hid ⟨by have := HF2.out.size; omega, by have := i2s.lt; omega⟩
  clear K1' HF1 f2 i2s HP hrb K2
  go_wp2_with fail
  refine K2'.mono ?_
  rintro e w3 ⟨rfl, i3, f3⟩
  have HF3 := Lib.hid (HF2.out.trans f3 fun _ _ h => h)
  have HI3 := Lib.hid i3
  have HS3 := Lib.hid (HI2.out.fr f3 id)
  have HL := Lib.hid hl
  clear K2' HF2 f3 i3 hl HI2
  go_wp2_with fail
  go_loopw [7, 30] (fun sv iv wr => ∃ (i : Nat) (B : Option Addr) (d : Nat) (xs : List ByteArray), i ≤ l.length ∧ i ≤ 40 ∧ iv = .int .i64 (i : Nat) ∧ sv = .slice B i d ∧ wr.ownsRow w.heap.size 9 1 (.slice B i d) i (xs.map Value.string) ∧ xs.length = i ∧ (∀ x ∈ xs, Old p i x) ∧ Sd wr sb i p ∧ Rv wr rb (RT p i) ∧ Fr (fun _ => False) w wr) (fun _ iv _ => l.length - (intOf iv).toNat)
  case atStart => exact ⟨0, none, 0, [], Nat.zero_le _, Nat.zero_le _, rfl, rfl, World.ownsRow_nil _ _ _ _, rfl, by simp, HS3.out, HI3.out, HF3.out⟩
  case round =>
    clear HS3 HI3 HF3
    obtain ⟨i, B, d, xs, hil, hi40, rfl, rfl, own, hxl, hold, sd, rv, fr⟩ := hrel
    by_cases hlt : i < l.length
    · obtain ⟨g, o, rfl, hg, hc⟩ := HL.out.fr fr (fun _ _ => id) (by simp; omega)
      have c0 : wr.cell? ⟨g, o + i, none⟩ = some (.string l[i]) := hc i (.string l[i]) (by rw [List.getElem?_map, List.getElem?_eq_getElem hlt]; rfl)
      generalize l[i] = x at *
      clear hc
      by_cases h40 : i = 40
      · have q40 : decide ((40 : Int) ≤ (i : Int)) = true := decide_eq_true (by omega)
        have KZ := lostr_any rv
        rw [show (RT p i).lost = 0 from rfl] at KZ
        have HF := Lib.hid fr
        clear own hold sd rv fr hxl h40
        go_wp2_with fail
        refine KZ.mono ?_
        rintro e w4 ⟨rfl, rfl⟩
        go_wp2_with fail
        go_ret
        exact ⟨rfl, HF.out.toBelow0⟩
      · have q40 : decide ((40 : Int) ≤ (i : Int)) = false := decide_eq_false (by omega)
        by_cases h200 : 200 < x.size
        · have q200 : decide ((200 : Int) < (x.size : Int)) = true := decide_eq_true (by omega)
          have KZ := lostr_any rv
          rw [show (RT p i).lost = 0 from rfl] at KZ
          have HF := Lib.hid fr
          clear own hold sd rv fr hxl h40 h200
          go_wp2_with fail
          refine KZ.mono ?_
          rintro e w4 ⟨rfl, rfl⟩
          go_wp2_with fail
          go_ret
          exact ⟨rfl, HF.out.toBelow0⟩
        · have q200 : decide ((200 : Int) < (x.size : Int)) = false := decide_eq_false (by omega)
          have hi39 : i ≤ 39 := by omega
          have htel := twice_tel p i hp hi40 x (by omega)
          have hrd := read_make htel
          have KS := send_any sd i x
          have hof : Sq.ofZ ((i : Int) + 1) = (i : Int) + 1 := by unfold Sq.ofZ; omega
          have hus : useZ i p i (bytesOf x) = ((i + 1 : Nat) : Int) := by
            unfold useZ
            rw [hof, if_pos htel]
            omega
          rw [hus, hof, htel] at KS
          obtain ⟨t, ht⟩ : ∃ t : ByteArray, t = ⟨(makeL p ((i : Int) + 1) i (bytesOf x)).1.toArray⟩ := ⟨_, rfl⟩
          have hbt : bytesOf t = (makeL p ((i : Int) + 1) i (bytesOf x)).1 := by rw [ht]; rfl
          rw [← ht] at KS
          rw [← hbt] at hrd
          have hold2 : ∀ y ∈ xs ++ [t], Old p (i + 1) y := fun y hy => by
            rcases List.mem_append.1 hy with h | h
            · obtain ⟨n, s, z, h1, h2, h3⟩ := hold y h
              exact ⟨n, s, z, h1, h2, by omega⟩
            · have : y = t := by simpa using h
              subst this
              exact ⟨_, _, _, hrd, by omega, by omega⟩
          have KT : ∀ W, Rv W rb (RT p i) → _ := fun W h => take_any h i t (by omega) (by show (0 : Int) ≤ 0; decide) (by show (0 : Int) ≤ _; decide)
          rw [hrd, twice_take p i hi40] at KT
          simp only at KT
          rw [mk_bytesOf x] at KT
          have HT := Lib.hid KT
          have HO2 := Lib.hid hold2
          have HOW := Lib.hid own
          have HRV := Lib.hid rv
          have HFR := Lib.hid fr
          have HXL := Lib.hid hxl
          have qx : (x.toList == x.toList) = true := beq_self_eq_true _
          have HSD := Lib.hid sd
          clear htel hrd hof hus ht hbt hold2 hold KT own rv fr h40 h200 hxl sd
          go_wp2_with fail
          refine KS.mono ?_
          rintro e w4 ⟨rfl, i4, f4⟩
          have f4' := f4
          have HF4 := Lib.hid (HFR.out.trans f4 fun j hj h => by have := HS.out; omega)
          have o4 := own_fr HOW.out f4 (fun k hk e => by have := wide_is_ne HOW.out HSD.out (by decide); exact this (e ▸ hk))
          clear KS HOW HFR f4
          go_wp2_with (at_builtin; refine wpList_append_rd _ rfl (.tmp 51) (.tmp 53) 57 rfl w.heap.size 9 i2 (.string .empty) 16 Try.underlying57 hj hy0 hy1 hy2 rfl _ i (xs.map Value.string) rfl (own_fr o4 ((Fr.refl (fun _ => False) w4).alloc (.cells #[.string t] 9)) (fun _ _ => id)) _ 1 1 [.string t] rfl rfl (Rd.one w4 (.string t) 9) (by intro u hu; simp at hu; subst hu; rfl) (by unfold maxLen; omega) (by omega) (by have := HF4.out.size; simp; omega) ?_)
          intro v5 w5 own5 hg5
          have o4a := own_fr o4 ((Fr.refl (fun _ => False) w4).alloc (.cells #[.string t] 9)) (fun _ _ => id)
          have HF5 := Lib.hid (own_step (HF4.out.alloc (.cells #[.string t] 9)) o4a hg5)
          have g5 : Fr (fun k => (Value.slice B i d).ownBlock = some k) (w4.alloc (.cells #[.string t] 9)) w5 := (Fr.refl _ _).grown hg5 fun _ hk => .inl hk
          have s5 := (Is.alloc i4 (.cells #[.string t] 9)).fr g5 (wide_is_ne o4a (Is.alloc i4 _) (by decide))
          have r4 := HRV.out.fr f4' (by have := HR.out; omega)
          have r5 := (Is.alloc r4 (.cells #[.string t] 9)).fr g5 (wide_is_ne o4a (Is.alloc r4 _) (by decide))
          obtain ⟨B5, d5, rfl, _⟩ := own_form own5
          rw [← List.map_singleton (f := Value.string), ← List.map_append] at own5
          have KT := HT.out _ r5
          have r5' := r5
          have HS5 := Lib.hid s5
          have HO5 := Lib.hid own5
          clear o4 o4a HF4 HRV g5 s5 r4 r5 hg5 i4 own5 HT f4'
          go_wp2_with fail
          refine KT.mono ?_
          rintro e w6 ⟨rfl, r6, f6⟩
          have HF6 := Lib.hid (HF5.out.trans f6 fun j hj h => by have := HR.out; omega)
          have HS6 := Lib.hid (HS5.out.fr f6 (by have := HR.out; omega))
          have HO6 := Lib.hid (own_fr HO5.out f6 (fun k hk e => wide_is_ne HO5.out r5' (by decide) (e ▸ hk)))
          have HR6 := Lib.hid r6
          clear KT HF5 HS5 HO5 f6 r6 r5' c0 HSD
          go_wp2_with fail
          clear qx
          obtain ⟨wz, hwz⟩ : ∃ wz, wz = wr := ⟨_, rfl⟩
          subst hwz
          go_loopw [71] (fun jv wq => ∃ (j : Nat), j ≤ i + 1 ∧ jv = .int .i64 (j : Nat) ∧ wq.ownsRow w.heap.size 9 1 (.slice B5 (i + 1) d5) (i + 1) ((xs ++ [t]).map Value.string) ∧ Sd wq sb ((i + 1 : Nat) : Int) p ∧ Rv wq rb (RT p (i + 1)) ∧ Fr (fun _ => False) w wq) (fun jv _ => i + 1 - (intOf jv).toNat)
          case atStart => exact ⟨0, Nat.zero_le _, rfl, HO6.out, HS6.out, HR6.out, HF6.out⟩
          case round =>
            clear HO6 HS6 HR6 HF6
            obtain ⟨j, hj1, rfl, own, sd, rv, fr⟩ := hrel
            by_cases hjt : j < i + 1
            · have hlen : (xs ++ [t]).length = i + 1 := by rw [List.length_append, HXL.out]; rfl
              obtain ⟨g2, o2, rfl, hg2, hc2⟩ := own_rd own (by rw [List.length_map, hlen]; omega)
              have c1 : wr.cell? ⟨g2, o2 + j, none⟩ = some (.string (xs ++ [t])[j]) := hc2 j (.string (xs ++ [t])[j]) (by rw [List.getElem?_map, List.getElem?_eq_getElem (by omega)]; rfl)
              obtain ⟨n, st, z, hrd, hs0, hs1⟩ := HO2.out _ (List.getElem_mem (by omega : j < (xs ++ [t]).length))
              generalize (xs ++ [t])[j] = y at *
              have KT := take_any rv i y (by omega) (by show (0 : Int) ≤ 0; decide) (by show (0 : Int) ≤ _; decide)
              rw [hrd, twice_again p i hi40 n st hs0 (by omega)] at KT
              simp only at KT
              have HOW := Lib.hid own
              have HSD := Lib.hid sd
              have HRV := Lib.hid rv
              have HFR := Lib.hid fr
              clear hc2 hlen hrd hs0 hs1 own sd rv fr
              go_wp2_with fail
              refine KT.mono ?_
              rintro e w7 ⟨rfl, r7, f7⟩
              have HF7 := Lib.hid (HFR.out.trans f7 fun j hj h => by have := HR.out; omega)
              have HS7 := Lib.hid (HSD.out.fr f7 (by have := HR.out; omega))
              have HO7 := Lib.hid (own_fr HOW.out f7 (fun k hk e => wide_is_ne HOW.out HRV.out (by decide) (e ▸ hk)))
              have HR7 := Lib.hid r7
              clear KT f7 r7 HFR HSD HOW HRV c1
              go_wp2_with fail
              go_roundw
              case rel => exact ⟨j + 1, by omega, by go_num, HO7.out, HS7.out, HR7.out, HF7.out⟩
              case measure => simp [intOf]; omega
            · have HOW := Lib.hid own
              clear own
              go_wp2_with fail
              go_roundw
              case rel => exact ⟨i + 1, B5, d5, xs ++ [t], by omega, by omega, by go_num, rfl, HOW.out, by rw [List.length_append, HXL.out]; rfl, HO2.out, sd, rv, fr⟩
              case measure => simp [intOf]; omega
    · have KZ := lostr_any rv
      rw [show (RT p i).lost = 0 from rfl] at KZ
      have HF := Lib.hid fr
      clear own hold sd rv fr hxl
      go_wp2_with fail
      refine KZ.mono ?_
      rintro e w4 ⟨rfl, rfl⟩
      go_wp2_with fail
      go_ret
      exact ⟨rfl, HF.out.toBelow0⟩
end Go.Proofs.Ytcencpkoimahbaa

/- The document's Erase, Read, Bare. -/
import Derived.Test.YtafhkhkpknipmaaRburn
namespace Go.Proofs.Ytafhkhkpknipmaa
open Go.RowKit Go.Maps

/-- a page was worn once more -/
theorem rm_worn {w : World} {R : Rf} {m : Mm} (h : RM w R m) {q : Nat} (hq : q < 24) :
    RM (w.setCell ⟨R.wb, q, none⟩ (.int .i64 ((m.worn q : Int) + 1))) R { m with worn := fun p => if p = q then m.worn p + 1 else m.worn p } ∧ Fr R.all w (w.setCell ⟨R.wb, q, none⟩ (.int .i64 ((m.worn q : Int) + 1))) := by
  have f := (Fr.refl (fun j => j = R.wb) w).setCell (p := ⟨R.wb, q, none⟩) (.inl rfl) (.int .i64 ((m.worn q : Int) + 1))
  obtain ⟨cs, hw1, hw2, hw3⟩ := h.wear
  obtain ⟨os, ho1, ho2⟩ := h.outer
  have n1 : R.b ≠ R.wb := is_ne h.is hw1 (by decide)
  have n2 : R.ob ≠ R.wb := is_ne ho1 hw1 (by decide)
  have n3 : ∀ p, p < 24 → R.g p ≠ R.wb := fun p hp => by
    obtain ⟨ps, hp1, _⟩ := h.page p hp
    exact is_ne hp1 hw1 (by decide)
  refine ⟨⟨h.is.fr f n1, ⟨os, ho1.fr f n2, ho2⟩, fun p hp => (h.page p hp).fr f (n3 p hp), ⟨_, hw1.set q _, by simp [hw2], fun p hp => ?_⟩, h.cuts.fr f fun k hk e => (h.cne k hk).2.1 e, h.cne, h.inj, h.link, h.lo, h.hi, h.len, fun j hj => Nat.lt_of_lt_of_le (h.lt j hj) f.size⟩, f.mono fun j _ hj => .inr (.inl hj)⟩
  show _ = some (Value.int .i64 ((if p = q then m.worn p + 1 else m.worn p : Nat) : Int))
  by_cases e : p = q
  · subst e
    rw [if_pos rfl, Array.getElem?_setIfInBounds_self_of_lt (by omega)]
    rfl
  · rw [if_neg e, Array.getElem?_setIfInBounds_ne (fun k => e k.symm)]
    exact hw3 p hp

set_option maxHeartbeats 8000000 in
theorem rerase_any {w : World} {R : Rf} {m : Mm} (h : RM w R m) (hk : m.acts < 4611686018427387904) (hwn : ∀ p, m.worn p < 4611686018427387904) (hl : ∀ x ∈ R.l, (ki x.1).wf = true ∧ (ki x.2).wf = true) (p : Int) (hp1 : -9223372036854775808 ≤ p) (hp2 : p ≤ 9223372036854775807) :
    Calls Try.prog 16 #[.pointer (some ⟨R.b, 0, none⟩), .int .i64 p] w fun e w' => e = .returned (.int .i64 (m.eraseE p : Nat)) ∧ RM w' R (m.eraseM p) ∧ Fr R.all w w' := by
  have HM := Lib.hid h
  have g5 := h.c5
  have KT := there_any p 0 w
  rcases spot_cases m p 0 4096 with ⟨hE, hd⟩ | ⟨hd, ⟨hE, hT⟩ | ⟨hT, ⟨hE, hn⟩ | ⟨hE, hn0, hn⟩⟩⟩
  · obtain ⟨h1, h2⟩ := eraseE_no (m := m) (p := p) (by rw [hE]; decide)
    have H1 := Lib.hid (h1.trans hE)
    have H2 := Lib.hid h2
    rw [hd] at g5
    clear h hE hd h1 h2 KT hwn
    go_enter Try.func16, Try.ntmps16
    go_wp2_with fail
    go_ret
    exact ⟨by rw [H1.out]; rfl, by rw [H2.out]; exact HM.out, Fr.refl _ _⟩
  · obtain ⟨h1, h2⟩ := eraseE_no (m := m) (p := p) (by rw [hE]; decide)
    have H1 := Lib.hid (h1.trans hE)
    have H2 := Lib.hid h2
    rw [hd] at g5
    rw [hT] at KT
    clear h hE hd h1 h2 hT hwn
    go_enter Try.func16, Try.ntmps16
    go_wp2_with (go_at_call 34; refine KT.mono ?_; rintro e w' ⟨rfl, rfl⟩)
    go_ret
    exact ⟨by rw [H1.out]; rfl, by rw [H2.out]; exact HM.out, Fr.refl _ _⟩
  · omega
  · have hT' := of_decide_eq_true hT
    obtain ⟨q, rfl⟩ : ∃ q : Nat, p = q := ⟨p.toNat, by omega⟩
    have hq : q < 24 := by omega
    rw [hd] at g5
    rw [hT] at KT
    have hwq := hwn q
    obtain ⟨b1, b2⟩ := eraseE_ok hE
    have B1 := Lib.hid b1
    have B2 := Lib.hid b2
    have KM := Lib.hid (most_any h hd hk hl 4096 (Nat.le_refl _))
    have hle := part_le m 4096
    clear h hE hd hT hT' hn hn0 hp1 hp2 hl b1 b2 hwn
    go_enter Try.func16, Try.ntmps16
    go_wp2_with (first | (go_at_call 34; refine KT.mono ?_; rintro e w' ⟨rfl, rfl⟩) | (go_at_call 35; refine KM.out.mono ?_; rintro e w1 ⟨rfl, M1, F1⟩))
    have F1' := F1.mono (S' := R.all) fun j _ hj => .inl hj
    have HF1 := Lib.hid F1'
    generalize hdd : m.part 4096 = d at *
    have M1' : RM w1 R { m.act with pg := layP m.pg q 0 ((List.replicate d 255).take 0) } := by rw [List.take_zero, layP_nil]; exact M1
    have HM1 := Lib.hid M1'
    clear M1 F1 F1' M1' KM KT g5 hdd
    go_loopw [7] (fun i wr => ∃ k : Nat, k ≤ d ∧ i = .int .i64 k ∧ RM wr R { m.act with pg := layP m.pg q 0 ((List.replicate d 255).take k) } ∧ Fr R.all w wr) (fun i _ => d - (intOf i).toNat)
    case atStart => exact ⟨0, Nat.zero_le _, rfl, HM1.out, HF1.out⟩
    case round =>
      clear HM1 HF1
      obtain ⟨k, hk2, rfl, hR, hF⟩ := hrel
      have hbw := hR.lt R.b (.inl rfl)
      by_cases hlt : k < d
      · have c0 := hR.c0
        have co := hR.co hq
        have hP := hR.page q hq
        have r1 := hP.cell (i := k) (by omega)
        have r2 := hP.frz k
        have how := hR.lt R.ob (.inr (.inr (.inl rfl)))
        have hgw := hR.lt (R.g q) (.inr (.inr (.inr (.inl ⟨q, hq, rfl⟩))))
        have hbk : k < (List.replicate d (255 : UInt8)).length := by rw [List.length_replicate]; exact hlt
        obtain ⟨M3, F3⟩ := rm_set hR hq (i := k) (by omega) 255
        have M3' : RM (wr.setCell ⟨R.g q, k, none⟩ (B 255)) R { m.act with pg := layP m.pg q 0 ((List.replicate d 255).take (k + 1)) } := by
          rw [layP_snoc m.pg q 0 _ k hbk, List.getElem_replicate, Nat.zero_add]
          exact M3
        have HM3 := Lib.hid M3'
        have HF3 := Lib.hid (hF.trans F3 fun _ _ h => h)
        clear M3 M3' F3 hR hF hP hbk
        go_wp2_with fail
        go_roundw
        case rel => exact ⟨k + 1, by omega, by go_num, HM3.out, HF3.out⟩
        case measure => simp [intOf]; omega
      · have hkd : k = d := by omega
        subst hkd
        obtain ⟨M4, F4⟩ := rm_worn hR hq
        have e2 : { { m.act with pg := layP m.pg q 0 ((List.replicate k 255).take k) } with worn := fun p => if p = q then m.worn p + 1 else m.worn p } = m.eraseM (q : Int) := by
          rw [B2.out, List.take_of_length_le (by simp)]
        have M4' : RM (wr.setCell ⟨R.wb, q, none⟩ (.int .i64 ((m.worn q : Int) + 1))) R (m.eraseM (q : Int)) := by
          rw [← e2]
          exact M4
        have HM4 := Lib.hid M4'
        have HF4 := Lib.hid (hF.trans F4 fun _ _ h => h)
        have c1 := hR.c1
        have r1 : wr.cell? ⟨R.wb, q, none⟩ = some (.int .i64 (m.worn q : Nat)) := hR.wear.cell hq
        have r2 := hR.wear.frz q
        have hww := hR.lt R.wb (.inr (.inl rfl))
        have HAE : Hid (m.actE = if m.hit = true then 14 else 0) := Lib.hid rfl
        clear M4 M4' F4 hR hF hlt e2
        cases hh : m.hit
        · have H0 : Hid (m.actE = 0) := Lib.hid (by rw [HAE.out, hh]; rfl)
          clear hh
          go_wp2_with fail
          go_ret
          exact ⟨by rw [B1.out, H0.out]; rfl, HM4.out, HF4.out⟩
        · have H0 : Hid (m.actE = 14) := Lib.hid (by rw [HAE.out, hh]; rfl)
          clear hh
          go_wp2_with fail
          go_ret
          exact ⟨by rw [B1.out, H0.out]; rfl, HM4.out, HF4.out⟩

set_option maxHeartbeats 4000000 in
theorem rread_any {w : World} {R : Rf} {m : Mm} (h : RM w R m) (p a n : Int) (hp1 : -9223372036854775808 ≤ p) (hp2 : p ≤ 9223372036854775807) (ha1 : -9223372036854775808 ≤ a) (ha2 : a ≤ 9223372036854775807) (hn1 : -9223372036854775808 ≤ n) (hn2 : n ≤ 9223372036854775807) :
    Calls Try.prog 18 #[.pointer (some ⟨R.b, 0, none⟩), .int .i64 p, .int .i64 a, .int .i64 n] w fun e w' => e = .returned (.tuple #[.string ⟨(m.readT p a n).toArray⟩, .int .i64 (m.spotE p a n : Nat)]) ∧ w = w' := by
  have g5 := h.c5
  have KT := there_any p a w
  have H0 : Hid (¬ m.spotE p a n = 0 → m.readT p a n = []) := Lib.hid fun k => by unfold Mm.readT; rw [if_neg k]
  rcases spot_cases m p a n with ⟨hE, hd⟩ | ⟨hd, ⟨hE, hT⟩ | ⟨hT, ⟨hE, hn⟩ | ⟨hE, hn0, hn⟩⟩⟩
  · have HE := Lib.hid hE
    have HR := Lib.hid (H0.out (by rw [hE]; decide))
    rw [hd] at g5
    clear h hE hd KT H0
    go_enter Try.func18, Try.ntmps18
    go_wp2_with fail
    go_ret2
    exact ⟨by rw [HR.out, HE.out]; rfl, rfl⟩
  · have HE := Lib.hid hE
    have HR := Lib.hid (H0.out (by rw [hE]; decide))
    rw [hd] at g5
    rw [hT] at KT
    clear h hE hd H0 hT
    go_enter Try.func18, Try.ntmps18
    go_wp2_with (go_at_call 34; refine KT.mono ?_; rintro e w' ⟨rfl, rfl⟩)
    go_ret2
    exact ⟨by rw [HR.out, HE.out]; rfl, rfl⟩
  · have HE := Lib.hid hE
    have HR := Lib.hid (H0.out (by rw [hE]; decide))
    rw [hd] at g5
    rw [hT] at KT
    have hT' := of_decide_eq_true hT
    have ha0 := hT'.2.1
    have ha4 := hT'.2.2
    clear h hE hd H0 hT hT'
    by_cases hn0 : n < 0
    · have d1 : decide (n < 0) = true := by simpa using hn0
      clear hn
      go_enter Try.func18, Try.ntmps18
      go_wp2_with (go_at_call 34; refine KT.mono ?_; rintro e w' ⟨rfl, rfl⟩)
      go_ret2
      exact ⟨by rw [HR.out, HE.out]; rfl, rfl⟩
    · have d1 : decide (n < 0) = false := by simpa using hn0
      have d2 : decide (4096 - a < n) = true := by simp; omega
      clear hn
      go_enter Try.func18, Try.ntmps18
      go_wp2_with (go_at_call 34; refine KT.mono ?_; rintro e w' ⟨rfl, rfl⟩)
      go_ret2
      exact ⟨by rw [HR.out, HE.out]; rfl, rfl⟩
  · have HE := Lib.hid hE
    have hT' := of_decide_eq_true hT
    obtain ⟨q, rfl⟩ : ∃ q : Nat, p = q := ⟨p.toNat, by omega⟩
    obtain ⟨z, rfl⟩ : ∃ z : Nat, a = z := ⟨a.toNat, by omega⟩
    obtain ⟨k, rfl⟩ : ∃ k : Nat, n = k := ⟨n.toNat, by omega⟩
    have hq : q < 24 := by omega
    have hz : z + k ≤ 4096 := by omega
    have HR : Hid (m.readT (q : Int) (z : Int) (k : Int) = cutP (fun i => m.pg q (z + i)) 0 k) := Lib.hid (by unfold Mm.readT; rw [if_pos hE, cutP_shift]; rfl)
    rw [hd] at g5
    rw [hT] at KT
    have d1 : decide ((k : Int) < 0) = false := by simp
    have d2 : decide (4096 - (z : Int) < (k : Int)) = false := by simp; omega
    have c0 := h.c0
    have co := h.co hq
    have hP := h.page q hq
    have hbw := h.lt R.b (.inl rfl)
    have how := h.lt R.ob (.inr (.inr (.inl rfl)))
    obtain ⟨o, ho, hsl⟩ : ∃ o, (0 < k → o = z) ∧ ∀ W, (Instr.sliceAt 53 (.slice (some ⟨R.g q, 0, none⟩) 4096 4096) (some (.int .i64 (z : Nat))) (some (.int .i64 ((z : Nat) + (k : Nat)))) none).run Try.prog W = .ok (.slice (some ⟨R.g q, o, none⟩) k (4096 - z)) W := by
      have h1 : (z : Int) + (k : Int) ≤ 4096 := by omega
      have h3 : 0 ≤ (z : Int) + (k : Int) := by omega
      have e1 : ((z : Int) + (k : Int)).toNat = z + k := by omega
      have e3 : z + k - z = k := by omega
      by_cases h4 : z = 4096
      · have hk0 : k = 0 := by omega
        refine ⟨0, fun h => by omega, fun W => ?_⟩
        subst h4 hk0
        simp [Instr.sliceAt, Instr.slice, run_underlying Try.underlying53, Instr.sliceBounds, Instr.sliceBound, asIntOf, Try.sizeOf5, Result.andThen]
      · have h4' : ¬ 4096 = z := fun e => h4 e.symm
        have e4 : (⟨R.g q, 0, none⟩ : Addr).add z = ⟨R.g q, z, none⟩ := by unfold Addr.add; split <;> simp_all
        refine ⟨z, fun _ => rfl, fun W => ?_⟩
        simp [Instr.sliceAt, Instr.slice, run_underlying Try.underlying53, Instr.sliceBounds, Instr.sliceBound, asIntOf, Try.sizeOf5, Result.andThen, h1, h3, e1, h4', e3, e4]
    have htx := text_of (w := w) (b := R.g q) (o := o) (n := k) (c := 4096 - z) (f := fun i => m.pg q (z + i)) (fun i hi => by rw [ho (by omega)]; exact hP.cell (by omega))
    clear h hE hd hT hT' hn hn0 H0 hP hn1 hn2 ha1 ha2 ho
    go_enter Try.func18, Try.ntmps18
    go_wp2_with (go_at_call 34; refine KT.mono ?_; rintro e w' ⟨rfl, rfl⟩)
    go_ret2
    exact ⟨by rw [HR.out, HE.out]; rfl, rfl⟩
end Go.Proofs.Ytafhkhkpknipmaa

/- The document's Burn. -/
import Derived.Test.YtafhkhkpknipmaaRmost
namespace Go.Proofs.Ytafhkhkpknipmaa
open Go.RowKit Go.Maps

/-- one byte of a page is written -/
theorem rm_set {w : World} {R : Rf} {m : Mm} (h : RM w R m) {q i : Nat} (hq : q < 24) (hi : i < 4096) (x : UInt8) :
    RM (w.setCell ⟨R.g q, i, none⟩ (B x)) R { m with pg := fun p j => if p = q ∧ j = i then x else m.pg p j } ∧ Fr R.all w (w.setCell ⟨R.g q, i, none⟩ (B x)) := by
  have f := (Fr.refl (fun j => j = R.g q) w).setCell (p := ⟨R.g q, i, none⟩) (.inl rfl) (B x)
  obtain ⟨cs, hp1, hp2, hp3⟩ := h.page q hq
  obtain ⟨os, ho1, ho2⟩ := h.outer
  have n1 : R.b ≠ R.g q := is_ne h.is hp1 (by decide)
  have n2 : R.ob ≠ R.g q := is_ne ho1 hp1 (by decide)
  have n3 : R.wb ≠ R.g q := by
    obtain ⟨ws, hw, _⟩ := h.wear
    exact is_ne hw hp1 (by decide)
  refine ⟨⟨h.is.fr f n1, ⟨os, ho1.fr f n2, ho2⟩, fun p hp => ?_, h.wear.fr f n3, h.cuts.fr f fun k hk e => (h.cne k hk).2.2 q hq e, h.cne, h.inj, h.link, h.lo, h.hi, h.len, fun j hj => Nat.lt_of_lt_of_le (h.lt j hj) f.size⟩, f.mono fun j _ hj => .inr (.inr (.inr (.inl ⟨q, hq, hj⟩)))⟩
  by_cases e : p = q
  · subst e
    refine ⟨_, hp1.set i (B x), by simp [hp2], fun j hj => ?_⟩
    by_cases ej : j = i
    · subst ej
      rw [Array.getElem?_setIfInBounds_self_of_lt (by omega)]
      show some (B x) = some (B (if p = p ∧ j = j then x else m.pg p j))
      rw [if_pos ⟨rfl, rfl⟩]
    · rw [Array.getElem?_setIfInBounds_ne (fun k => ej k.symm), hp3 j hj]
      show some (B (m.pg p j)) = some (B (if p = p ∧ j = i then x else m.pg p j))
      rw [if_neg fun k => ej k.2]
  · have hpq := (h.page p hp).fr f (fun k => e (h.inj p q hp hq k))
    obtain ⟨ds, k1, k2, k3⟩ := hpq
    refine ⟨ds, k1, k2, fun j hj => ?_⟩
    rw [k3 j hj]
    show some (B (m.pg p j)) = some (B (if p = q ∧ j = i then x else m.pg p j))
    rw [if_neg fun k => e k.1]
theorem layP_snoc (g : Nat → Nat → UInt8) (q a : Nat) (l : List UInt8) (k : Nat) (hk : k < l.length) : layP g q a (l.take (k + 1)) = fun p j => if p = q ∧ j = a + k then l[k] else layP g q a (l.take k) p j := by
  funext p j
  by_cases h : p = q ∧ j = a + k
  · rw [if_pos h]
    obtain ⟨rfl, rfl⟩ := h
    exact layP_in _ _ _ _ _ _ (by rw [List.getElem?_take, if_pos (by omega), List.getElem?_eq_getElem hk])
  · rw [if_neg h]
    unfold layP
    by_cases h2 : p = q ∧ a ≤ j ∧ j < a + (l.take k).length
    · rw [if_pos h2, if_pos (by rw [List.length_take] at h2 ⊢; omega)]
      rw [List.getD_eq_getElem?_getD, List.getD_eq_getElem?_getD, List.getElem?_take, List.getElem?_take, if_pos (by rw [List.length_take] at h2; omega), if_pos (by rw [List.length_take] at h2; omega)]
    · rw [if_neg h2, if_neg (by rw [List.length_take] at h2 ⊢; omega)]

theorem spot_cases (m : Mm) (p a n : Int) : m.spotE p a n = 14 ∧ m.down = true ∨ m.down = false ∧ (m.spotE p a n = 20 ∧ decide ((0 ≤ p ∧ p < 24) ∧ 0 ≤ a ∧ a ≤ 4096) = false ∨ decide ((0 ≤ p ∧ p < 24) ∧ 0 ≤ a ∧ a ≤ 4096) = true ∧ (m.spotE p a n = 2 ∧ (n < 0 ∨ 4096 - a < n) ∨ m.spotE p a n = 0 ∧ 0 ≤ n ∧ n ≤ 4096 - a)) := by
  unfold Mm.spotE
  by_cases hd : m.down = true
  · exact .inl ⟨by rw [if_pos hd], hd⟩
  · refine .inr ⟨by simpa using hd, ?_⟩
    rw [if_neg hd]
    by_cases h2 : ¬ (0 ≤ p ∧ p < 24) ∨ a < 0 ∨ 4096 < a
    · exact .inl ⟨by rw [if_pos h2], by rw [decide_eq_false_iff_not]; omega⟩
    · rw [if_neg h2]
      refine .inr ⟨by rw [decide_eq_true_iff]; omega, ?_⟩
      by_cases h3 : n < 0 ∨ 4096 - a < n
      · exact .inl ⟨by rw [if_pos h3], h3⟩
      · exact .inr ⟨by rw [if_neg h3], by omega, by omega⟩

set_option maxHeartbeats 8000000 in
theorem rburn_any {w : World} {R : Rf} {m : Mm} (h : RM w R m) (hk : m.acts < 4611686018427387904) (hl : ∀ x ∈ R.l, (ki x.1).wf = true ∧ (ki x.2).wf = true) (p a : Int) (hp1 : -9223372036854775808 ≤ p) (hp2 : p ≤ 9223372036854775807) (ha1 : -9223372036854775808 ≤ a) (ha2 : a ≤ 9223372036854775807) (s : ByteArray) (hs : s.size ≤ 140737488355328) :
    Calls Try.prog 13 #[.pointer (some ⟨R.b, 0, none⟩), .int .i64 p, .int .i64 a, .string s] w fun e w' => e = .returned (.int .i64 (m.burnE p a (bytesOf s) : Nat)) ∧ RM w' R (m.burnM p a (bytesOf s)) ∧ Fr R.all w w' := by
  have hbl := bytesOf_length s
  have HM := Lib.hid h
  have g5 := h.c5
  have KT := there_any p a w
  rcases spot_cases m p a ((bytesOf s).length : Int) with ⟨hE, hd⟩ | ⟨hd, ⟨hE, hT⟩ | ⟨hT, ⟨hE, hn⟩ | ⟨hE, hn0, hn⟩⟩⟩
  · obtain ⟨h1, h2⟩ := burnE_no (m := m) (p := p) (a := a) (t := bytesOf s) (by rw [hE]; decide)
    have H1 := Lib.hid (h1.trans hE)
    have H2 := Lib.hid h2
    rw [hd] at g5
    clear h hE hd h1 h2 KT
    go_enter Try.func13, Try.ntmps13
    go_wp2_with fail
    go_ret
    exact ⟨by rw [H1.out]; rfl, by rw [H2.out]; exact HM.out, Fr.refl _ _⟩
  · obtain ⟨h1, h2⟩ := burnE_no (m := m) (p := p) (a := a) (t := bytesOf s) (by rw [hE]; decide)
    have H1 := Lib.hid (h1.trans hE)
    have H2 := Lib.hid h2
    rw [hd] at g5
    rw [hT] at KT
    clear h hE hd h1 h2 hT
    go_enter Try.func13, Try.ntmps13
    go_wp2_with (go_at_call 34; refine KT.mono ?_; rintro e w' ⟨rfl, rfl⟩)
    go_ret
    exact ⟨by rw [H1.out]; rfl, by rw [H2.out]; exact HM.out, Fr.refl _ _⟩
  · obtain ⟨h1, h2⟩ := burnE_no (m := m) (p := p) (a := a) (t := bytesOf s) (by rw [hE]; decide)
    have H1 := Lib.hid (h1.trans hE)
    have H2 := Lib.hid h2
    rw [hd] at g5
    rw [hT] at KT
    have hT' := of_decide_eq_true hT
    have d1 : decide ((4096 : Int) < a + (s.size : Int)) = true := by simp; omega
    have ha0 := hT'.2.1
    have ha4 := hT'.2.2
    clear h hE hd h1 h2 hT hT' hn
    go_enter Try.func13, Try.ntmps13
    go_wp2_with (go_at_call 34; refine KT.mono ?_; rintro e w' ⟨rfl, rfl⟩)
    go_ret
    exact ⟨by rw [H1.out]; rfl, by rw [H2.out]; exact HM.out, Fr.refl _ _⟩
  · have hT' := of_decide_eq_true hT
    obtain ⟨q, rfl⟩ : ∃ q : Nat, p = q := ⟨p.toNat, by omega⟩
    obtain ⟨z, rfl⟩ : ∃ z : Nat, a = z := ⟨a.toNat, by omega⟩
    have hq : q < 24 := by omega
    have hz : z + s.size ≤ 4096 := by omega
    rw [hd] at g5
    rw [hT] at KT
    have d1 : decide ((4096 : Int) < (z : Int) + (s.size : Int)) = false := by simp; omega
    have HD := Lib.hid hd
    have HE := Lib.hid hE
    have KM := Lib.hid (most_any h hd hk hl s.size (by omega))
    have HB := Lib.hid hbl
    have c0 := h.c0
    have co := h.co hq
    have hbw := h.lt R.b (.inl rfl)
    have how := h.lt R.ob (.inr (.inr (.inl rfl)))
    have hgw := h.lt (R.g q) (.inr (.inr (.inr (.inl ⟨q, hq, rfl⟩))))
    have HP := Lib.hid (h.page q hq)
    clear h hE hd hT hT' hn hn0 hbl hp1 hp2 ha1 ha2 hl
    go_enter Try.func13, Try.ntmps13
    go_wp2_with (go_at_call 34; refine KT.mono ?_; rintro e w' ⟨rfl, rfl⟩)
    clear KT d1
    go_loop [9] (fun i => ∃ k : Nat, k ≤ s.size ∧ i = .int .i64 k ∧ ∀ j, j < k → m.pg q (z + j) = 255) (fun i => s.size - (intOf i).toNat)
    case atStart => exact ⟨0, Nat.zero_le _, rfl, fun j hj => by omega⟩
    case round =>
      obtain ⟨k, hk1, rfl, hall⟩ := hrel
      have HA := Lib.hid hall
      clear hall
      by_cases hlt : k < s.size
      · have r1 := HP.out.cell (i := z + k) (by omega)
        by_cases hx : m.pg q (z + k) = 255
        · have ht : (((m.pg q (z + k)).toNat : Int) != 255) = false := by rw [hx]; rfl
          have HX := Lib.hid hx
          clear hx
          go_wp2_with fail
          go_round
          case rel => exact ⟨k + 1, by omega, by go_num, fun j hj => by
            rcases Nat.lt_succ_iff_lt_or_eq.1 hj with hj | rfl
            · exact HA.out j hj
            · exact HX.out⟩
          case measure => simp [intOf]; omega
        · have ht : (((m.pg q (z + k)).toNat : Int) != 255) = true := by
            have : (m.pg q (z + k)).toNat ≠ 255 := fun e => hx (UInt8.toNat_inj.1 (e.trans rfl))
            simp
            omega
          have hbt : ¬ m.burnt (q : Int) (z : Int) (bytesOf s).length = 0 := fun e => hx ((bareN_zero _ _).1 e k (by rw [HB.out]; exact hlt))
          have HBT := Lib.hid (burnE_burnt HE.out hbt)
          clear hx hbt
          go_wp2_with fail
          go_ret
          exact ⟨by rw [HBT.out.1]; rfl, by rw [HBT.out.2]; exact HM.out, Fr.refl _ _⟩
      · have hks : k = s.size := by omega
        subst hks
        have hbt : m.burnt (q : Int) (z : Int) (bytesOf s).length = 0 := (bareN_zero _ _).2 fun i hi => HA.out i (by rw [← HB.out]; exact hi)
        obtain ⟨b1, b2⟩ := burnE_ok HE.out hbt
        have B1 := Lib.hid b1
        have B2 := Lib.hid b2
        have hle := part_le m s.size
        clear hbt b1 b2 hlt
        go_wp2_with (go_at_call 35; refine KM.out.mono ?_; rintro e w1 ⟨rfl, M1, F1⟩)
        have F1' := F1.mono (S' := R.all) fun j _ hj => .inl hj
        have HF1 := Lib.hid F1'
        have M1' : RM w1 R { m.act with pg := layP m.pg q z ((bytesOf s).take 0) } := by rw [List.take_zero, layP_nil]; exact M1
        have HM1 := Lib.hid M1'
        clear M1 F1 F1' M1' KM c0 co g5 hbw how hgw HP
        generalize hdd : m.part s.size = d at *
        have HDD := Lib.hid hdd
        clear hdd
        go_loopw [12] (fun i wr => ∃ k : Nat, k ≤ d ∧ i = .int .i64 k ∧ RM wr R { m.act with pg := layP m.pg q z ((bytesOf s).take k) } ∧ Fr R.all w wr) (fun i _ => d - (intOf i).toNat)
        case atStart => exact ⟨0, Nat.zero_le _, rfl, HM1.out, HF1.out⟩
        case round =>
          clear HM1 HF1
          obtain ⟨k, hk2, rfl, hR, hF⟩ := hrel
          by_cases hlt : k < d
          · have hks : k < s.size := by omega
            have c0 := hR.c0
            have co := hR.co hq
            have hP := hR.page q hq
            have r1 := hP.cell (i := z + k) (by omega)
            have r2 := hP.frz (z + k)
            have hbw := hR.lt R.b (.inl rfl)
            have how := hR.lt R.ob (.inr (.inr (.inl rfl)))
            have hgw := hR.lt (R.g q) (.inr (.inr (.inr (.inl ⟨q, hq, rfl⟩))))
            have hbk : k < (bytesOf s).length := by rw [HB.out]; exact hks
            obtain ⟨M3, F3⟩ := rm_set (hR.none (Fr.refl (fun _ => False) wr).drew) hq (i := z + k) (by omega) s[k]
            have M3' : RM (wr.drew.setCell ⟨R.g q, z + k, none⟩ (B s[k])) R { m.act with pg := layP m.pg q z ((bytesOf s).take (k + 1)) } := by
              rw [layP_snoc m.pg q z (bytesOf s) k hbk]
              exact M3
            have HM3 := Lib.hid M3'
            have HF3 := Lib.hid ((hF.drew).trans F3 fun _ _ h => h)
            clear M3 M3' F3 hR hF hP
            go_wp2_with fail
            go_region
            go_wp2
            go_roundw
            case rel => exact ⟨k + 1, by omega, by go_num, HM3.out, HF3.out⟩
            case measure => simp [intOf]; omega
          · have hkd : k = d := by omega
            subst hkd
            have HR := Lib.hid hR
            have HF := Lib.hid hF
            have e2 : { m.act with pg := layP m.pg q z ((bytesOf s).take k) } = m.burnM (q : Int) (z : Int) (bytesOf s) := by
              rw [B2.out, HB.out, HDD.out]
              rfl
            have E2 := Lib.hid e2
            have HAE : Hid (m.actE = if m.hit = true then 14 else 0) := Lib.hid rfl
            clear hR hF hlt e2
            cases hh : m.hit
            · have H0 : Hid (m.actE = 0) := Lib.hid (by rw [HAE.out, hh]; rfl)
              clear hh
              go_wp2_with fail
              go_ret
              exact ⟨by rw [B1.out, H0.out]; rfl, by rw [← E2.out]; exact HR.out, HF.out⟩
            · have H0 : Hid (m.actE = 14) := Lib.hid (by rw [HAE.out, hh]; rfl)
              clear hh
              go_wp2_with fail
              go_ret
              exact ⟨by rw [B1.out, H0.out]; rfl, by rw [← E2.out]; exact HR.out, HF.out⟩
end Go.Proofs.Ytafhkhkpknipmaa

/- The contracts of Read and Erase. -/
import Derived.Test.YtdoljggaoidljaaGreatBurn
namespace Go.Proofs.YtdoljggaoidljaaGreat
open Go.RowKit Go.Maps

section
variable {w : World} {b : Nat} {r : Option Nat} {m : Mm}

theorem text_of {w : World} {b o n c : Nat} {f : Nat → UInt8} (h : ∀ i, i < n → w.cell? ⟨b, o + i, none⟩ = some (B (f i))) :
    (convert 66 9 (.slice (some ⟨b, o, none⟩) n c)).run Tryz.prog w = .ok (.string ⟨(cutP f 0 n).toArray⟩) w := by
  have e : (cutP f 0 n).length = n := cutP_length f 0 n
  have K := run_convert_bytes_back (P := Tryz.prog) w 66 9 5 ⟨b, o, none⟩ c (cutP f 0 n) Tryz.underlying66 Tryz.underlying5 Tryz.underlying9 (fun j hj => by
    have hj' : j < n := by omega
    have ea : (⟨b, o, none⟩ : Addr).add j = ⟨b, o + j, none⟩ := by unfold Addr.add; split <;> simp_all
    have eb : (cutP f 0 n)[j] = f j := by
      have := cutP_get f 0 n j hj'
      rw [List.getElem?_eq_getElem hj, Nat.zero_add] at this
      injection this
    rw [ea, h j hj', eb]
    rfl)
  rw [e] at K
  exact K

theorem cutP_shift (f : Nat → UInt8) (a n : Nat) : cutP (fun i => f (a + i)) 0 n = cutP f a n := by
  unfold cutP
  simp

set_option maxHeartbeats 800000 in
theorem read_any (h : Mem w b r m) (p a n : Int) (hp1 : -9223372036854775808 ≤ p) (hp2 : p ≤ 9223372036854775807) (ha1 : -9223372036854775808 ≤ a) (ha2 : a ≤ 9223372036854775807) (hn1 : -9223372036854775808 ≤ n) (hn2 : n ≤ 9223372036854775807) :
    Calls Tryz.prog 28 #[.pointer (some ⟨b, 0, none⟩), .int .i64 p, .int .i64 a, .int .i64 n] w fun e w' => e = .returned (.tuple #[.string ⟨(m.readT p a n).toArray⟩, .int .i64 (m.spotE p a n : Nat)]) ∧ w = w' := by
  by_cases hs : m.spotE p a n = 0
  · obtain ⟨hd, q, a', n', rfl, rfl, rfl, hq, ha⟩ := spot_ok hs
    have KP := places_ok h q a' n' hq ha hd
    have HR : Hid (m.readT (q : Int) (a' : Int) (n' : Int) = cutP (fun i => m.pg q (a' + i)) 0 n') := Lib.hid (by unfold Mm.readT; rw [if_pos hs, cutP_shift]; rfl)
    have HS := Lib.hid hs
    have rb := Lib.hid (h.rb hq ha)
    clear h hs hd
    go_enter Tryz.func28, Tryz.ntmps28
    go_wp2_with (go_at_call 40; refine KP.mono ?_; rintro e w' ⟨⟨o, rfl, ho⟩, rfl⟩; have ht := text_of (w := w) (b := b) (o := o) (n := n') (c := 4096 - a') (f := fun i => m.pg q (a' + i)) (fun i hi => by obtain ⟨b', o', hA, hc⟩ := rb.out (by omega); injection hA with hA; injection hA with e1 e2; rw [ho (by omega), e1, e2]; exact hc i hi); clear ho)
    go_ret2
    exact ⟨by rw [HR.out, HS.out]; rfl, rfl⟩
  · have KP := places_no h p a n hp1 hp2 ha1 ha2 hn1 hn2 hs
    have HR : Hid (m.readT p a n = []) := Lib.hid (by unfold Mm.readT; rw [if_neg hs])
    have ht : ∀ W, (convert 66 9 (.slice none 0 0)).run Tryz.prog W = .ok (.string ⟨#[]⟩) W := fun W => by
      rw [run_convert_bytes_string W 66 9 5 none 0 0 Tryz.underlying66 Tryz.underlying5 Tryz.underlying9]
      simp [Conv.bytesToString]
      rfl
    clear h hs
    go_enter Tryz.func28, Tryz.ntmps28
    go_wp2_with (go_at_call 40; refine KP.mono ?_; rintro e w' ⟨rfl, rfl⟩)
    go_ret2
    exact ⟨by rw [HR.out]; rfl, rfl⟩

theorem at_worn {cs : Array Value} (h : At cs m) (p : Nat) (hp : p < 24) : At (cs.setIfInBounds (98308 + p) (.int .i64 (m.worn p + 1 : Nat))) { m with worn := fun q => if q = p then m.worn q + 1 else m.worn q } := by
  have ne : ∀ i, i ≠ 98308 + p → (cs.setIfInBounds (98308 + p) (.int .i64 (m.worn p + 1 : Nat)))[i]? = cs[i]? := fun i hi => Array.getElem?_setIfInBounds_ne (by omega)
  refine ⟨by simp [h.size], (ne 0 (by omega)).trans h.acts, (ne 1 (by omega)).trans h.armed, (ne 3 (by omega)).trans h.down, fun q i hq hi => (ne _ (by omega)).trans (h.pg q i hq hi), fun q hq => ?_⟩
  by_cases e : q = p
  · subst e
    show (cs.setIfInBounds (98308 + q) (.int .i64 (m.worn q + 1 : Nat)))[98308 + q]? = some (.int .i64 ((if q = q then m.worn q + 1 else m.worn q : Nat) : Int))
    rw [if_pos rfl, Array.getElem?_setIfInBounds_self_of_lt (by rw [h.size]; omega)]
  · rw [ne _ (by omega), h.worn q hq]
    show _ = some (Value.int .i64 ((if q = p then m.worn q + 1 else m.worn q : Nat) : Int))
    rw [if_neg e]
theorem mem_worn (h : Mem w b r m) (p : Nat) (hp : p < 24) : Mem (w.setCell ⟨b, 98308 + p, none⟩ (.int .i64 (m.worn p + 1 : Nat))) b r { m with worn := fun q => if q = p then m.worn q + 1 else m.worn q } ∧ Fr (Foot b r) w (w.setCell ⟨b, 98308 + p, none⟩ (.int .i64 (m.worn p + 1 : Nat))) := by
  obtain ⟨cs, h1, h2, h3⟩ := h.ex
  have f := (Fr.refl (fun j => j = b) w).setCell (p := ⟨b, 98308 + p, none⟩) (.inl rfl) (.int .i64 (m.worn p + 1 : Nat))
  exact ⟨⟨⟨_, h1.set _ _, at_worn h2 p hp, by rw [Array.getElem?_setIfInBounds_ne (by omega)]; exact h3⟩, fun hd => cuts_fr (h.cut hd) f fun k hk => ⟨h.lt k hk, fun e => h.ne (by rw [hk, e])⟩, h.lo, h.hi, h.ne, fun k hk => Nat.lt_of_lt_of_le (h.lt k hk) f.size⟩, f.mono fun j _ hj => .inl hj⟩

theorem eraseE_no {p : Int} (h : ¬ m.spotE p 0 4096 = 0) : m.eraseE p = m.spotE p 0 4096 ∧ m.eraseM p = m := by
  unfold Mm.eraseE Mm.eraseM
  exact ⟨by rw [if_neg h], by rw [if_neg h]⟩
theorem eraseE_ok {p : Nat} (h : m.spotE (p : Int) 0 4096 = 0) : m.eraseE (p : Int) = m.actE ∧ m.eraseM (p : Int) = { m.act with pg := layP m.pg p 0 (List.replicate (m.part 4096) 255), worn := fun q => if q = p then m.worn q + 1 else m.worn q } := by
  unfold Mm.eraseE Mm.eraseM
  exact ⟨by rw [if_pos h], by rw [if_pos h]; rfl⟩

set_option maxHeartbeats 2000000 in
theorem erase_any (h : Mem w b r m) (hk : m.acts < 4611686018427387904) (hw : ∀ p, m.worn p < 4611686018427387904) (p : Int) (hp1 : -9223372036854775808 ≤ p) (hp2 : p ≤ 9223372036854775807) :
    Calls Tryz.prog 54 #[.pointer (some ⟨b, 0, none⟩), .int .i64 p] w fun e w' => e = .returned (.int .i64 (m.eraseE p : Nat)) ∧ Mem w' b r (m.eraseM p) ∧ Fr (Foot b r) w w' := by
  have HM := Lib.hid h
  by_cases hs : m.spotE p 0 4096 = 0
  · obtain ⟨hd, q, a', n', rfl, e1, e2, hq, ha⟩ := spot_ok hs
    have HD := Lib.hid hd
    have KP := places_ok h q 0 4096 hq (by omega) hd
    obtain ⟨hE, hM⟩ := eraseE_ok hs
    have HE := Lib.hid hE
    have HN := Lib.hid hM
    have gw := h.cworn hq
    have gf := h.frz
    have hwq := hw q
    have hb := h.blt
    have hle := part_le m 4096
    clear h hs hE hM hd hw e1 e2
    go_enter Tryz.func54, Tryz.ntmps54
    go_wp2_with (go_at_call 40; refine KP.mono ?_; rintro e w' ⟨⟨o, rfl, ho⟩, rfl⟩; have HO : Hid (o = 4 + q * 4096 + 0) := Lib.hid (ho (by omega)); clear ho)
    go_region
    obtain ⟨M1, F1⟩ := mem_worn (HM.out.none (Fr.refl (fun _ => False) w).drew) q hq
    have hsl := headSlice b o 4096 4096 (m.part 4096) hle
    have HF1 := Lib.hid F1
    have KA : Hid (Calls Tryz.prog 77 #[.pointer (some ⟨b, 0, none⟩), .int .i64 4096] (w.drew.setCell ⟨b, 98308 + q, none⟩ (.int .i64 (m.worn q + 1 : Nat))) fun e w' => e = .returned (.tuple #[.int .i64 (m.part 4096 : Nat), .int .i64 (m.actE : Nat)]) ∧ Mem w' b r { m.act with worn := fun p => if p = q then m.worn p + 1 else m.worn p } ∧ Fr (Foot b r) (w.drew.setCell ⟨b, 98308 + q, none⟩ (.int .i64 (m.worn q + 1 : Nat))) w') := Lib.hid (act_any M1 HD.out hk 4096 (Nat.le_refl _))
    clear F1 M1 KP gw gf
    go_wp2_with (first
      | (go_at_call 77; refine KA.out.mono ?_; rintro e w1 ⟨rfl, M2, F2⟩; have HM2 := Lib.hid M2; have HF2 := Lib.hid F2; clear M2 F2)
      | (go_at_call 18; obtain ⟨cs, i1, i2, i3⟩ := HM2.out.ex; refine (layBare_any i1 (by rw [i2.size, HO.out]; omega) (by omega)).mono ?_; rintro e w2 ⟨rfl, rfl⟩))
    go_ret
    have e0 : o = 4 + q * 4096 + 0 := HO.out
    subst e0
    obtain ⟨M3, F3⟩ := mem_lay HM2.out q 0 (List.replicate (m.part 4096) 255) hq (by rw [List.length_replicate]; omega)
    rw [List.map_replicate] at M3 F3
    exact ⟨by rw [HE.out]; rfl, by rw [HN.out]; exact M3, (((Fr.refl _ w).drew.trans HF1.out fun _ _ k => k).trans HF2.out fun _ _ k => k).trans F3 fun _ _ k => k⟩
  · have KP := places_no h p 0 4096 hp1 hp2 (by omega) (by omega) (by omega) (by omega) hs
    obtain ⟨hE, hM⟩ := eraseE_no hs
    have HE := Lib.hid hE
    have HN := Lib.hid hM
    obtain ⟨z, hz⟩ : ∃ z, m.spotE p 0 4096 = z + 1 := ⟨_, (Nat.succ_pred_eq_of_pos (Nat.pos_of_ne_zero hs)).symm⟩
    rw [hz] at KP
    have HZ := Lib.hid hz
    clear h hs hE hM hz hw
    go_enter Tryz.func54, Tryz.ntmps54
    go_wp2_with (go_at_call 40; refine KP.mono ?_; rintro e w' ⟨rfl, rfl⟩)
    go_ret
    exact ⟨by rw [HE.out, HZ.out]; rfl, by rw [HN.out]; exact HM.out, Fr.refl _ _⟩
end
end Go.Proofs.YtdoljggaoidljaaGreat

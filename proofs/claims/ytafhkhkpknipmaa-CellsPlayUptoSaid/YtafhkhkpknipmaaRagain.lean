/- The document's Again. -/
import Derived.Test.YtafhkhkpknipmaaRnew
namespace Go.Proofs.Ytafhkhkpknipmaa
open Go.RowKit Go.Maps

/-- the cells of a page -/
def pageC (f : Nat → UInt8) : List Value := (List.range 4096).map fun i => B (f i)
theorem pageC_length (f : Nat → UInt8) : (pageC f).length = 4096 := by unfold pageC; rw [List.length_map, List.length_range]
theorem pageC_at (f : Nat → UInt8) (i : Nat) (h : i < 4096) : (pageC f)[i]? = some (B (f i)) := by
  unfold pageC
  rw [List.getElem?_map, List.getElem?_range h]
  rfl
theorem pageC_one (f : Nat → UInt8) : ∀ u ∈ pageC f, u.oneCell' = true := by
  intro u hu
  obtain ⟨p, _, rfl⟩ := List.mem_map.1 hu
  rfl
/-- a whole page is written -/
theorem rm_page {w : World} {R : Rf} {m : Mm} (h : RM w R m) {q : Nat} (hq : q < 24) (f : Nat → UInt8) :
    RM (w.setCells (R.g q) 0 (pageC f)) R { m with pg := fun p j => if p = q then f j else m.pg p j } ∧ Fr R.all w (w.setCells (R.g q) 0 (pageC f)) := by
  have f1 := Fr.setCells (S := fun j => j = R.g q) (b := R.g q) (pageC f) 0 (Fr.refl _ w) (.inl rfl)
  obtain ⟨cs, hp1, hp2, hp3⟩ := h.page q hq
  obtain ⟨os, ho1, ho2⟩ := h.outer
  have n1 : R.b ≠ R.g q := is_ne h.is hp1 (by decide)
  have n2 : R.ob ≠ R.g q := is_ne ho1 hp1 (by decide)
  have n3 : R.wb ≠ R.g q := by
    obtain ⟨ws, hw, _⟩ := h.wear
    exact is_ne hw hp1 (by decide)
  refine ⟨⟨h.is.fr f1 n1, ⟨os, ho1.fr f1 n2, ho2⟩, fun p hp => ?_, h.wear.fr f1 n3, h.cuts.fr f1 fun k hk e => (h.cne k hk).2.2 q hq e, h.cne, h.inj, h.link, h.lo, h.hi, h.len, fun j hj => Nat.lt_of_lt_of_le (h.lt j hj) f1.size⟩, f1.mono fun j _ hj => .inr (.inr (.inr (.inl ⟨q, hq, hj⟩)))⟩
  by_cases e : p = q
  · subst e
    refine ⟨_, Is.setCells _ _ _ _ hp1, by rw [splice_size, hp2], fun j hj => ?_⟩
    rw [splice_at _ _ _ _ (by rw [pageC_length, hp2]; exact Nat.le_refl _), if_pos (by rw [pageC_length]; omega), Nat.sub_zero, pageC_at f j hj]
    show some (B (f j)) = some (B (if p = p then f j else m.pg p j))
    rw [if_pos rfl]
  · have hpq := (h.page p hp).fr f1 (fun k => e (h.inj p q hp hq k))
    obtain ⟨ds, k1, k2, k3⟩ := hpq
    refine ⟨ds, k1, k2, fun j hj => ?_⟩
    rw [k3 j hj]
    show some (B (m.pg p j)) = some (B (if p = q then f j else m.pg p j))
    rw [if_neg e]
/-- the wear of a page is written -/
theorem rm_wset {w : World} {R : Rf} {m : Mm} (h : RM w R m) {q : Nat} (hq : q < 24) (x : Nat) :
    RM (w.setCell ⟨R.wb, q, none⟩ (.int .i64 (x : Nat))) R { m with worn := fun p => if p = q then x else m.worn p } ∧ Fr R.all w (w.setCell ⟨R.wb, q, none⟩ (.int .i64 (x : Nat))) := by
  have f := (Fr.refl (fun j => j = R.wb) w).setCell (p := ⟨R.wb, q, none⟩) (.inl rfl) (.int .i64 (x : Nat))
  obtain ⟨cs, hw1, hw2, hw3⟩ := h.wear
  obtain ⟨os, ho1, ho2⟩ := h.outer
  have n1 : R.b ≠ R.wb := is_ne h.is hw1 (by decide)
  have n2 : R.ob ≠ R.wb := is_ne ho1 hw1 (by decide)
  have n3 : ∀ p, p < 24 → R.g p ≠ R.wb := fun p hp => by
    obtain ⟨ps, hp1, _⟩ := h.page p hp
    exact is_ne hp1 hw1 (by decide)
  refine ⟨⟨h.is.fr f n1, ⟨os, ho1.fr f n2, ho2⟩, fun p hp => (h.page p hp).fr f (n3 p hp), ⟨_, hw1.set q _, by simp [hw2], fun p hp => ?_⟩, h.cuts.fr f fun k hk e => (h.cne k hk).2.1 e, h.cne, h.inj, h.link, h.lo, h.hi, h.len, fun j hj => Nat.lt_of_lt_of_le (h.lt j hj) f.size⟩, f.mono fun j _ hj => .inr (.inl hj)⟩
  show _ = some (Value.int .i64 ((if p = q then x else m.worn p : Nat) : Int))
  by_cases e : p = q
  · subst e
    rw [if_pos rfl, Array.getElem?_setIfInBounds_self_of_lt (by omega)]
  · rw [if_neg e, Array.getElem?_setIfInBounds_ne (fun k => e k.symm)]
    exact hw3 p hp

/-- of m the first k pages -/
def Mm.upTo (m : Mm) (k : Nat) : Mm := { Mm.new with pg := fun p j => if p < k then m.pg p j else 255, worn := fun p => if p < k then m.worn p else 0 }
theorem upTo_zero (m : Mm) : m.upTo 0 = Mm.new := by
  unfold Mm.upTo
  simp
  rfl
theorem upTo_next (m : Mm) (k : Nat) : { { m.upTo k with pg := fun p j => if p = k then m.pg k j else (m.upTo k).pg p j } with worn := fun p => if p = k then m.worn k else (m.upTo k).worn p } = m.upTo (k + 1) := by
  have e1 : (fun p j => if p = k then m.pg k j else (m.upTo k).pg p j) = (m.upTo (k + 1)).pg := by
    funext p j
    show (if p = k then m.pg k j else if p < k then m.pg p j else 255) = if p < k + 1 then m.pg p j else 255
    by_cases e : p = k
    · subst e; rw [if_pos rfl, if_pos (by omega)]
    · rw [if_neg e]
      by_cases h : p < k
      · rw [if_pos h, if_pos (by omega)]
      · rw [if_neg h, if_neg (by omega)]
  have e2 : (fun p => if p = k then m.worn k else (m.upTo k).worn p) = (m.upTo (k + 1)).worn := by
    funext p
    show (if p = k then m.worn k else if p < k then m.worn p else 0) = if p < k + 1 then m.worn p else 0
    by_cases e : p = k
    · subst e; rw [if_pos rfl, if_pos (by omega)]
    · rw [if_neg e]
      by_cases h : p < k
      · rw [if_pos h, if_pos (by omega)]
      · rw [if_neg h, if_neg (by omega)]
  rw [e1, e2]
  rfl
/-- a memory reads alike where its pages and wear are alike below 24 -/
theorem RM.same {w : World} {R : Rf} {m n : Mm} (h : RM w R m) (ha : n.acts = m.acts) (hr : n.armed = m.armed) (hc : n.cut = m.cut) (hd : n.down = m.down) (hp : ∀ p, p < 24 → n.pg p = m.pg p) (hw : ∀ p, p < 24 → n.worn p = m.worn p) : RM w R n := by
  have e : R.arr n = R.arr m := by unfold Rf.arr; rw [ha, hr, hd]
  refine ⟨e ▸ h.is, h.outer, fun p k => hp p k ▸ h.page p k, ?_, h.cuts, h.cne, h.inj, fun k i => ?_, by rw [hr, ha]; exact h.lo, by rw [ha]; exact h.hi, h.len, h.lt⟩
  · obtain ⟨cs, h1, h2, h3⟩ := h.wear
    exact ⟨cs, h1, h2, fun p k => by rw [hw p k]; exact h3 p k⟩
  · rw [hc]
    exact h.link (by rw [← hd]; exact k) i

set_option maxRecDepth 10000 in
set_option maxHeartbeats 8000000 in
theorem ragain_any {w : World} {R : Rf} {m : Mm} (h : RM w R m) : Calls Try.prog 22 #[.pointer (some ⟨R.b, 0, none⟩)] w fun e w' => ∃ Q : Rf, e = .returned (.pointer (some ⟨Q.b, 0, none⟩)) ∧ RM w' Q m.again ∧ Fr (fun _ => False) w w' ∧ (∀ j, Q.all j → w.heap.size ≤ j) ∧ Q.l = [] := by
  have HM := Lib.hid h
  clear h
  go_enter Try.func22, Try.ntmps22
  go_wp2_with fail
  refine (rnew_any w).mono ?_
  rintro e w1 ⟨Q, rfl, M1, F1, L1, E1⟩
  have HE := Lib.hid E1
  have H1 := Lib.hid (HM.out.none F1)
  have c0 := H1.out.c0
  have HQ := Lib.hid M1
  have HF1 := Lib.hid F1
  have HL := Lib.hid L1
  have hap : ∀ j, R.all j → ¬ Q.all j := fun j h1 h2 => by have := HM.out.lt j h1; have := L1 j h2; omega
  have HAP := Lib.hid hap
  clear M1 F1 L1 E1 hap
  go_wp2_with fail
  clear c0
  go_loopw [4, 11] (fun _ i wr => ∃ k : Nat, k ≤ 24 ∧ i = .int .i64 k ∧ RM wr Q (m.upTo k) ∧ RM wr R m ∧ Fr (fun j => w.heap.size ≤ j) w wr) (fun _ i _ => 24 - (intOf i).toNat)
  case atStart => exact ⟨0, Nat.zero_le _, rfl, by rw [upTo_zero]; exact HQ.out, H1.out, HF1.out.mono fun _ _ k => k.elim⟩
  case round =>
    clear HQ H1
    obtain ⟨k, hk, rfl, hQ, hR, hF⟩ := hrel
    by_cases hlt : k < 24
    · have p0 := hQ.c0
      have p1 := hQ.c1
      have po := hQ.co hlt
      have q0 := hR.c0
      have q1 := hR.c1
      have qo := hR.co hlt
      have b1 := hQ.lt Q.b (.inl rfl)
      have b2 := hQ.lt Q.ob (.inr (.inr (.inl rfl)))
      have b3 := hQ.lt (Q.g k) (.inr (.inr (.inr (.inl ⟨k, hlt, rfl⟩))))
      have b4 := hR.lt R.b (.inl rfl)
      have b5 := hR.lt R.ob (.inr (.inr (.inl rfl)))
      have b6 := hR.lt (R.g k) (.inr (.inr (.inr (.inl ⟨k, hlt, rfl⟩))))
      have hQd := hQ.none (Fr.refl (fun _ => False) wr).drew
      have hRd := hR.none (Fr.refl (fun _ => False) wr).drew
      have hcp : ∀ ty, (Builtin.copy_ #[53, 53] ty #[.slice (some ⟨Q.g k, 0, none⟩) 4096 4096, .slice (some ⟨R.g k, 0, none⟩) 4096 4096]).run Try.prog wr.drew = .ok (goInt ((4096 : Nat) : Int)) (wr.drew.setCells (Q.g k) 0 (pageC (m.pg k))) := fun ty => by
        have := run_copy_cells (P := Try.prog) wr.drew 53 53 ty 5 (Q.g k) 0 4096 4096 ⟨R.g k, 0, none⟩ 4096 4096 (pageC (m.pg k)) Try.underlying53 (by kernel_rfl) (by rw [pageC_length]; rfl) (fun j v hv => by
          have hj : j < 4096 := by have := (List.getElem?_eq_some_iff.1 hv).1; rw [pageC_length] at this; exact this
          rw [pageC_at _ j hj] at hv
          injection hv with hv
          have e : (⟨R.g k, 0, none⟩ : Addr).add j = ⟨R.g k, j, none⟩ := by unfold Addr.add; split <;> simp_all
          rw [e, ← hv]
          exact (hRd.page k hlt).cell hj) (fun j hj => by rw [pageC_length] at hj; rw [Nat.zero_add, (hQd.page k hlt).cell hj]; rfl) (fun j hj => (hQd.page k hlt).frz _) (pageC_one _)
        rw [pageC_length] at this
        exact this
      obtain ⟨M2, F2⟩ := rm_page hQd hlt (m.pg k)
      have N2 := hRd.fr F2 (HAP.out)
      have F2' := (hF.drew).trans F2 fun j _ hj => HL.out j hj
      clear hQ hR hF hQd hRd
      have HM2 := Lib.hid M2
      have HN2 := Lib.hid N2
      have HF2 := Lib.hid F2'
      clear M2 N2 F2 F2'
      go_wp2_with fail
      go_region
      clear hcp p0 p1 po q0 q1 qo b1 b2 b3 b4 b5 b6
      generalize wr.drew.setCells (Q.g k) 0 (pageC (m.pg k)) = w2 at *
      have p1 := HM2.out.c1
      have pw := HM2.out.wear.cell hlt
      have pf := HM2.out.wear.frz k
      have q1 := HN2.out.c1
      have qw := HN2.out.wear.cell hlt
      have b1 := HM2.out.lt Q.b (.inl rfl)
      have b2 := HM2.out.lt Q.wb (.inr (.inl rfl))
      have b3 := HN2.out.lt R.b (.inl rfl)
      have b4 := HN2.out.lt R.wb (.inr (.inl rfl))
      obtain ⟨M3, F3⟩ := rm_wset (HM2.out.none (Fr.refl (fun _ => False) w2).drew) hlt (m.worn k)
      rw [upTo_next] at M3
      have HM3 := Lib.hid M3
      have HN3 := Lib.hid ((HN2.out.none (Fr.refl (fun _ => False) w2).drew).fr F3 HAP.out)
      have HF3 := Lib.hid ((HF2.out.drew).trans F3 fun j _ hj => HL.out j hj)
      clear M3 F3
      go_wp2_with fail
      go_region
      go_wp2_with fail
      go_roundw
      case rel => exact ⟨k + 1, by omega, by go_num, HM3.out, HN3.out, HF3.out⟩
      case measure => simp [intOf]; omega
    · have hk4 : k = 24 := by omega
      subst hk4
      have hA : RM wr Q m.again := hQ.same rfl rfl rfl rfl (fun p hp => by funext j; show m.pg p j = if p < 24 then m.pg p j else 255; rw [if_pos hp]) (fun p hp => by show m.worn p = if p < 24 then m.worn p else 0; rw [if_pos hp])
      have HA := Lib.hid hA
      have HF := Lib.hid (hF.mono (S' := fun _ => False) fun j h1 h2 => by omega)
      clear hQ hR hF hA hlt
      go_wp2_with fail
      go_ret
      exact ⟨Q, rfl, HA.out, HF.out, HL.out, HE.out⟩
end Go.Proofs.Ytafhkhkpknipmaa

/- The document's most: how many bytes of an act happen, and whether a cut comes. -/
import Derived.Test.YtafhkhkpknipmaaRmem
namespace Go.Proofs.Ytafhkhkpknipmaa
open Go.RowKit Go.Maps

/-- the least part so far, and whether a cut was met -/
def mfP (l : List (Int × Int)) (i : Int) (n : Int) : Int := match cutAt l i with
  | none => n
  | some x => if x < n then x else n
def mfB (l : List (Int × Int)) (i : Int) : Bool := (cutAt l i).isSome
theorem mf_hit (l : List (Int × Int)) (k : Nat) (h : k < l.length) (i n : Int) (he : l[k].1 = i) : mfP (l.take (k + 1)) i n = (if l[k].2 < mfP (l.take k) i n then l[k].2 else mfP (l.take k) i n) ∧ mfB (l.take (k + 1)) i = true := by
  unfold mfP mfB
  rw [cutAt_take l k h i]
  unfold cutStep
  rw [if_pos he]
  cases cutAt (l.take k) i with
  | none => exact ⟨rfl, rfl⟩
  | some x =>
    refine ⟨?_, rfl⟩
    simp only
    repeat' split
    all_goals first | rfl | omega
theorem mf_miss (l : List (Int × Int)) (k : Nat) (h : k < l.length) (i n : Int) (he : ¬ l[k].1 = i) : mfP (l.take (k + 1)) i n = mfP (l.take k) i n ∧ mfB (l.take (k + 1)) i = mfB (l.take k) i := by
  unfold mfP mfB
  rw [cutAt_take l k h i]
  unfold cutStep
  rw [if_neg he]
  exact ⟨rfl, rfl⟩
theorem mf_in {l : List (Int × Int)} {i n : Int} (hl : ∀ x ∈ l, (ki x.1).wf = true ∧ (ki x.2).wf = true) (hn : (ki n).wf = true) (k : Nat) (hk : k ≤ l.length) : (ki (mfP (l.take k) i n)).wf = true := by
  induction k with
  | zero => exact hn
  | succ k ih =>
    by_cases he : l[k].1 = i
    · rw [(mf_hit l k hk i n he).1]
      split
      · exact (hl _ (List.getElem_mem hk)).2
      · exact ih (by omega)
    · rw [(mf_miss l k hk i n he).1]
      exact ih (by omega)

/-- the block's cells behind an act -/
theorem rm_act {w : World} {R : Rf} {m : Mm} (h : RM w R m) (hd : m.down = false) (hk : m.acts < 4611686018427387904) :
    RM (((w.setCell ⟨R.b, 3, none⟩ (.int .i64 ((m.acts - m.armed : Nat) + 1))).setCell ⟨R.b, 4, none⟩ (.int .i64 (m.acts + 1))).setCell ⟨R.b, 5, none⟩ (.bool m.hit)) R m.act ∧
      Fr (fun j => j = R.b) w (((w.setCell ⟨R.b, 3, none⟩ (.int .i64 ((m.acts - m.armed : Nat) + 1))).setCell ⟨R.b, 4, none⟩ (.int .i64 (m.acts + 1))).setCell ⟨R.b, 5, none⟩ (.bool m.hit)) := by
  have f := (((Fr.refl (fun j => j = R.b) w).setCell (p := ⟨R.b, 3, none⟩) (.inl rfl) (.int .i64 ((m.acts - m.armed : Nat) + 1))).setCell (p := ⟨R.b, 4, none⟩) (.inl rfl) (.int .i64 (m.acts + 1))).setCell (p := ⟨R.b, 5, none⟩) (.inl rfl) (.bool m.hit)
  refine ⟨?_, f⟩
  have hlo := h.lo
  obtain ⟨os, ho1, ho2⟩ := h.outer
  have i1 := ((h.is.set 3 (.int .i64 ((m.acts - m.armed : Nat) + 1))).set 4 (.int .i64 (m.acts + 1))).set 5 (.bool m.hit)
  have e : (((R.arr m).setIfInBounds 3 (.int .i64 ((m.acts - m.armed : Nat) + 1))).setIfInBounds 4 (.int .i64 (m.acts + 1))).setIfInBounds 5 (.bool m.hit) = R.arr m.act := by
    have e1 : (((m.acts - m.armed : Nat) : Int) + 1) = ((m.acts + 1 - m.armed : Nat) : Int) := by omega
    unfold Rf.arr
    rw [e1]
    rfl
  rw [e] at i1
  have n1 : R.ob ≠ R.b := is_ne ho1 h.is (by decide)
  have n2 : R.wb ≠ R.b := by
    obtain ⟨cs, hw, _⟩ := h.wear
    exact is_ne hw h.is (by decide)
  have n3 : ∀ p, p < 24 → R.g p ≠ R.b := fun p hp => by
    obtain ⟨cs, hw, _⟩ := h.page p hp
    exact is_ne hw h.is (by decide)
  refine ⟨i1, ⟨os, ho1.fr f n1, ho2⟩, fun p hp => (h.page p hp).fr f (n3 p hp), h.wear.fr f n2, h.cuts.fr f fun k hk e => (h.cne k hk).1 e, h.cne, h.inj, fun hd' i => h.link hd i, by show m.armed ≤ m.acts + 1; omega, by show m.acts + 1 ≤ _; omega, h.len, fun j hj => Nat.lt_of_lt_of_le (h.lt j hj) f.size⟩

set_option maxHeartbeats 4000000 in
theorem most_any {w : World} {R : Rf} {m : Mm} (h : RM w R m) (hd : m.down = false) (hk : m.acts < 4611686018427387904) (hl : ∀ x ∈ R.l, (ki x.1).wf = true ∧ (ki x.2).wf = true) (n : Nat) (hn : n ≤ 4096) :
    Calls Try.prog 35 #[.pointer (some ⟨R.b, 0, none⟩), .int .i64 (n : Nat)] w fun e w' => e = .returned (.tuple #[.int .i64 (m.part n : Nat), .bool (!m.hit)]) ∧ RM w' R m.act ∧ Fr (fun j => j = R.b) w w' := by
  have g2 := h.c2
  have hb := h.lt R.b (.inl rfl)
  have hwn : (ki (n : Int)).wf = true := wf_nat n (by omega)
  obtain ⟨i, hi⟩ : ∃ i : Nat, i = m.acts - m.armed := ⟨_, rfl⟩
  have HP : Hid ((m.part n : Int) = if mfP R.l i n < 0 then 0 else mfP R.l i n) := Lib.hid (by
    unfold Mm.part mfP
    rw [h.link hd, ← hi]
    cases cutAt R.l (i : Int) with
    | none => simp only; rw [if_neg (by omega)]
    | some x => simp only; repeat' split
                all_goals omega)
  have HB : Hid (m.hit = mfB R.l i) := Lib.hid (by
    unfold Mm.hit mfB
    rw [h.link hd, ← hi])
  have hlen := h.len
  have HM := Lib.hid h
  have HL := Lib.hid hl
  have HD := Lib.hid hd
  have HI := Lib.hid hi
  clear hd h hl hi
  go_enter Try.func35, Try.ntmps35
  go_wp2
  clear g2
  go_loopw [6, 7, 9, 16] (fun vp vc _ v wr => ∃ k : Nat, k ≤ R.l.length ∧ v = .int .i64 k ∧ vp = .int .i64 (mfP (R.l.take k) i n) ∧ vc = .bool (mfB (R.l.take k) i) ∧ Fr (fun _ => False) w wr) (fun _ _ _ v _ => R.l.length - (intOf v).toNat)
  case atStart => exact ⟨0, Nat.zero_le _, rfl, rfl, rfl, Fr.refl _ _⟩
  case round =>
    obtain ⟨k, hk', rfl, rfl, rfl, hF⟩ := hrel
    by_cases hlt : k < R.l.length
    · obtain ⟨ab, o, hA, hab, hc⟩ := HM.out.cuts (by rw [cutCells_length]; omega)
      obtain ⟨e1, e2⟩ := cutCells_at R.l k hlt
      have q1 : wr.cell? ⟨ab, o + k * 2, none⟩ = some (.int .i64 R.l[k].1) := (hF.cell (p := ⟨ab, o + k * 2, none⟩) hab id).trans (hc _ _ e1)
      have q2 : wr.cell? ⟨ab, o + k * 2 + 1, none⟩ = some (.int .i64 R.l[k].2) := (hF.cell (p := ⟨ab, o + k * 2 + 1, none⟩) hab id).trans (by have := hc _ _ e2; rw [← Nat.add_assoc] at this; exact this)
      have g3 : wr.cell? ⟨R.b, 3, none⟩ = some (.int .i64 (i : Nat)) := (hF.cell (p := ⟨R.b, 3, none⟩) hb id).trans (by have := HM.out.c3; rw [← HI.out] at this; exact this)
      have hbr : R.b < wr.heap.size := Nat.lt_of_lt_of_le hb hF.size
      have habr : ab < wr.heap.size := Nat.lt_of_lt_of_le hab hF.size
      have HH := Lib.hid (mf_hit R.l k hlt i n)
      have HS := Lib.hid (mf_miss R.l k hlt i n)
      have hp0 := mf_in (i := i) HL.out hwn k hk'
      have W0 := Lib.hid hp0
      have HF := Lib.hid hF
      rw [hA]
      clear hc e1 e2 hF hp0 hA
      generalize hx : R.l[k] = x at q1 q2
      rw [hx] at HH HS
      obtain ⟨a, p⟩ := x
      simp only at q1 q2
      generalize mfP (R.l.take k) i n = P0 at *
      generalize mfB (R.l.take k) i = B0 at *
      clear hx
      by_cases ha : a = i
      · have HH1 := Lib.hid (HH.out ha)
        subst ha
        by_cases hp : p < P0
        · have d1 : decide (p < P0) = true := by simpa using hp
          have H3 := Lib.hid hp
          clear hp
          go_wp2_with fail
          go_quiet (fail)
          go_wp2_with fail
          go_roundw
          case rel => exact ⟨k + 1, by omega, by go_num, by rw [HH1.out.1]; exact congrArg (Value.int .i64) (if_pos H3.out).symm, by rw [HH1.out.2], (HF.out.alloc _).drewN _⟩
          case measure => simp [intOf]; omega
        · have d1 : decide (p < P0) = false := by simpa using hp
          have H3 := Lib.hid hp
          clear hp
          go_wp2_with fail
          go_quiet (fail)
          go_wp2_with fail
          go_roundw
          case rel => exact ⟨k + 1, by omega, by go_num, by rw [HH1.out.1]; exact congrArg (Value.int .i64) (if_neg (by have := H3.out; omega)).symm, by rw [HH1.out.2], (HF.out.alloc _).drewN _⟩
          case measure => simp [intOf]; omega
      · have HS1 := Lib.hid (HS.out ha)
        have d0 : ((a : Int) == (i : Int)) = false := by simpa using ha
        clear ha
        go_wp2_with fail
        go_quiet (fail)
        go_wp2_with fail
        go_roundw
        case rel => exact ⟨k + 1, by omega, by go_num, by rw [HS1.out.1], by rw [HS1.out.2], (HF.out.alloc _).drewN _⟩
        case measure => simp [intOf]; omega
    · have hkl : k = R.l.length := by omega
      subst hkl
      rw [List.take_length]
      have hp0 := mf_in (i := i) HL.out hwn R.l.length (Nat.le_refl _)
      rw [List.take_length] at hp0
      have M1 := HM.out.none hF
      have g3 := M1.c3
      rw [← HI.out] at g3
      have g4 := M1.c4
      have g5 := M1.c5
      rw [HD.out] at g5
      have gf := M1.frz
      have hbr := M1.lt R.b (.inl rfl)
      have W0 := Lib.hid hp0
      have HF := Lib.hid hF
      obtain ⟨M2, F2⟩ := rm_act M1 HD.out hk
      rw [HB.out, ← HI.out] at M2 F2
      have HM2 := Lib.hid M2
      have HF2 := Lib.hid F2
      have HE : Hid (m.hit = mfB R.l i) := HB
      have hile : i ≤ 4611686018427387904 := by have := HI.out; omega
      clear hF hp0 M1 M2 F2 hlt hk'
      generalize hP : mfP R.l i n = P0 at *
      generalize hB : mfB R.l i = B0 at *
      clear hP hB
      by_cases hneg : P0 < 0
      · have d0 : decide (P0 < 0) = true := by simpa using hneg
        have H0 : Hid ((m.part n : Int) = 0) := Lib.hid (by rw [HP.out, if_pos hneg])
        clear hneg
        go_wp2_with fail
        go_ret2
        exact ⟨by rw [H0.out, HE.out]; rfl, HM2.out, (HF.out.mono fun _ _ k => k.elim).trans HF2.out fun _ _ k => k⟩
      · have d0 : decide (P0 < 0) = false := by simpa using hneg
        have H0 : Hid ((m.part n : Int) = P0) := Lib.hid (by rw [HP.out, if_neg hneg])
        clear hneg
        go_wp2_with fail
        go_ret2
        exact ⟨by rw [H0.out, HE.out]; rfl, HM2.out, (HF.out.mono fun _ _ k => k.elim).trans HF2.out fun _ _ k => k⟩
end Go.Proofs.Ytafhkhkpknipmaa

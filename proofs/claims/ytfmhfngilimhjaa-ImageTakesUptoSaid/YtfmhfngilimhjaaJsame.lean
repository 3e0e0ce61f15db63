/- The contracts of the document's SameLooks and Same, at equal rows. -/
import Derived.Test.YtfmhfngilimhjaaJeq
namespace Go.Proofs.Ytfmhfngilimhjaa.Im
open Go.RowKit Li

theorem rd_lk {w : World} {A : Option Addr} {l : List Lk} (h : Rd w A (cellsL l)) {j : Nat} (hj : j < l.length) : ∃ g o, A = some ⟨g, o, none⟩ ∧ w.cell? ⟨g, o + j * 3, none⟩ = some (.int .i64 l[j].v) ∧ w.cell? ⟨g, o + j * 3 + 1, none⟩ = some (.int .i64 l[j].z) ∧ w.cell? ⟨g, o + j * 3 + 2, none⟩ = some (.bool l[j].b) := by
  have hl := cellsL_length l
  obtain ⟨g, o, rfl, hg, hc⟩ := h (by omega)
  have at_ : ∀ i, i < 3 → (cellsL l)[j * 3 + i]? = l[j].cells[i]? := fun i hi => by
    rw [cellsL_at, show (j * 3 + i) / 3 = j by omega, show (j * 3 + i) % 3 = i by omega, List.getElem?_eq_getElem hj]
    rfl
  refine ⟨g, o, rfl, hc _ _ ((at_ 0 (by decide)).trans rfl), ?_, ?_⟩
  · rw [Nat.add_assoc]
    exact hc _ _ ((at_ 1 (by decide)).trans rfl)
  · rw [Nat.add_assoc]
    exact hc _ _ ((at_ 2 (by decide)).trans rfl)
set_option maxHeartbeats 1000000 in
theorem samelooks_any {w : World} {A B : Option Addr} {c d : Nat} {l : List Lk} (ha : Rd w A (cellsL l)) (hb : Rd w B (cellsL l)) (hl : l.length ≤ 17592186044416) :
    Calls Try.prog 55 #[.slice A l.length c, .slice B l.length d] w fun e w' => e = .returned (.bool true) ∧ Fr (fun _ => False) w w' := by
  have HA := Lib.hid ha
  have HB := Lib.hid hb
  have hl9 : (l.length : Int) ≤ 17592186044416 := by omega
  have hne : ((l.length : Int) != (l.length : Int)) = false := by simp
  clear ha hb
  go_enter Try.func55, Try.ntmps55
  go_wp2_with fail
  go_loopw [13] (fun v13 wr => ∃ i : Nat, i ≤ l.length ∧ v13 = .int .i64 (i : Nat) ∧ Fr (fun _ => False) w wr) (fun v _ => l.length - (intOf v).toNat)
  case atStart => exact ⟨0, Nat.zero_le _, rfl, Fr.refl _ _⟩
  case round =>
    obtain ⟨i, hi, rfl, fr⟩ := hrel
    by_cases hlt : i < l.length
    · have hii : (i : Int) < (l.length : Int) := by omega
      obtain ⟨g, o, rfl, a0, a1, a2⟩ := rd_lk (HA.out.fr fr fun _ _ => id) hlt
      obtain ⟨g', o', rfl, b0, b1, b2⟩ := rd_lk (HB.out.fr fr fun _ _ => id) hlt
      have HF := Lib.hid fr
      clear fr
      generalize l[i].v = v at *
      generalize l[i].z = z at *
      generalize l[i].b = t at *
      go_wp2_with fail
      go_big_quiet (fail)
      go_wp2_with fail
      go_roundw
      case rel => exact ⟨i + 1, by omega, by go_num, HF.out.drewN _⟩
      case measure => simp [intOf]; omega
    · have hii : ¬ (i : Int) < (l.length : Int) := by omega
      go_wp2_with fail
      go_ret
      exact ⟨rfl, fr⟩
/-- four rows that are read -/
structure R4 (w : World) (A0 A1 A2 A3 : Option Addr) (L0 L1 L2 L3 : List Lk) : Prop where
  r0 : Rd w A0 (cellsL L0)
  r1 : Rd w A1 (cellsL L1)
  r2 : Rd w A2 (cellsL L2)
  r3 : Rd w A3 (cellsL L3)
theorem R4.fr0 {w w1 : World} {A0 A1 A2 A3 : Option Addr} {L0 L1 L2 L3 : List Lk} (h : R4 w A0 A1 A2 A3 L0 L1 L2 L3) (f : Fr (fun _ => False) w w1) : R4 w1 A0 A1 A2 A3 L0 L1 L2 L3 := ⟨h.r0.fr f fun _ _ => id, h.r1.fr f fun _ _ => id, h.r2.fr f fun _ _ => id, h.r3.fr f fun _ _ => id⟩
set_option maxHeartbeats 2000000 in
theorem same_any {w : World} {A0 A1 A2 A3 B0 B1 B2 B3 : Option Addr} {c0 c1 c2 c3 d0 d1 d2 d3 : Nat} {L0 L1 L2 L3 : List Lk} (ha : R4 w A0 A1 A2 A3 L0 L1 L2 L3) (hb : R4 w B0 B1 B2 B3 L0 L1 L2 L3) (h0 : L0.length ≤ 17592186044416) (h1 : L1.length ≤ 17592186044416) (h2 : L2.length ≤ 17592186044416) (h3 : L3.length ≤ 17592186044416) :
    Calls Try.prog 23 #[.agg #[.slice A0 L0.length c0, .slice A1 L1.length c1, .slice A2 L2.length c2, .slice A3 L3.length c3], .agg #[.slice B0 L0.length d0, .slice B1 L1.length d1, .slice B2 L2.length d2, .slice B3 L3.length d3]] w fun e w' => e = .returned (.bool true) ∧ Fr (fun _ => False) w w' := by
  have i1 : Is ((w.alloc (.cells #[.slice A0 L0.length c0, .slice A1 L1.length c1, .slice A2 L2.length c2, .slice A3 L3.length c3] 55)).alloc (.cells #[.slice B0 L0.length d0, .slice B1 L1.length d1, .slice B2 L2.length d2, .slice B3 L3.length d3] 55)) w.heap.size 55 #[.slice A0 L0.length c0, .slice A1 L1.length c1, .slice A2 L2.length c2, .slice A3 L3.length c3] := (Is.new _ _ _).alloc _
  have i2 : Is ((w.alloc (.cells #[.slice A0 L0.length c0, .slice A1 L1.length c1, .slice A2 L2.length c2, .slice A3 L3.length c3] 55)).alloc (.cells #[.slice B0 L0.length d0, .slice B1 L1.length d1, .slice B2 L2.length d2, .slice B3 L3.length d3] 55)) (w.heap.size + 1) 55 #[.slice B0 L0.length d0, .slice B1 L1.length d1, .slice B2 L2.length d2, .slice B3 L3.length d3] := by
    have := Is.new (w.alloc (.cells #[.slice A0 L0.length c0, .slice A1 L1.length c1, .slice A2 L2.length c2, .slice A3 L3.length c3] 55)) 55 #[.slice B0 L0.length d0, .slice B1 L1.length d1, .slice B2 L2.length d2, .slice B3 L3.length d3]
    simpa using this
  have f0 : Fr (fun _ => False) w ((w.alloc (.cells #[.slice A0 L0.length c0, .slice A1 L1.length c1, .slice A2 L2.length c2, .slice A3 L3.length c3] 55)).alloc (.cells #[.slice B0 L0.length d0, .slice B1 L1.length d1, .slice B2 L2.length d2, .slice B3 L3.length d3] 55)) := ((Fr.refl _ w).alloc _).alloc _
  generalize hW : ((w.alloc (.cells #[.slice A0 L0.length c0, .slice A1 L1.length c1, .slice A2 L2.length c2, .slice A3 L3.length c3] 55)).alloc (.cells #[.slice B0 L0.length d0, .slice B1 L1.length d1, .slice B2 L2.length d2, .slice B3 L3.length d3] 55)) = w0 at *
  have HW := Lib.hid hW
  clear hW
  have KL := fun (W : World) (A B : Option Addr) (l : List Lk) (c d : Nat) (k : Rd W A (cellsL l)) (k2 : Rd W B (cellsL l)) (hl : l.length ≤ 17592186044416) => samelooks_any (c := c) (d := d) k k2 hl
  have HX0 := Lib.hid (ha.fr0 f0)
  have HY0 := Lib.hid (hb.fr0 f0)
  have I0 := Lib.hid i1
  have J0 := Lib.hid i2
  have F0 := Lib.hid f0
  have a0 := Te.four_cells i1
  have b0 := Te.four_cells i2
  have HL := Lib.hid (And.intro h0 (And.intro h1 (And.intro h2 h3)))
  clear ha hb i1 i2 f0 h0 h1 h2 h3
  go_enter Try.func23, Try.ntmps23
  go_wp2_with fail
  rw [HW.out]
  refine (KL _ _ _ _ _ _ HX0.out.r0 HY0.out.r0 HL.out.1).mono ?_
  rintro e w1 ⟨rfl, f1⟩
  have HX1 := Lib.hid (HX0.out.fr0 f1)
  have HY1 := Lib.hid (HY0.out.fr0 f1)
  have I1 := Lib.hid (I0.out.fr f1 id)
  have J1 := Lib.hid (J0.out.fr f1 id)
  have F1 := Lib.hid (fr_nil F0.out f1)
  have a1 := Te.four_cells I1.out
  have b1 := Te.four_cells J1.out
  clear f1 HX0 HY0 I0 J0 F0 a0 b0
  go_wp2_with fail
  refine (KL _ _ _ _ _ _ HX1.out.r1 HY1.out.r1 HL.out.2.1).mono ?_
  rintro e w2 ⟨rfl, f2⟩
  have HX2 := Lib.hid (HX1.out.fr0 f2)
  have HY2 := Lib.hid (HY1.out.fr0 f2)
  have I2 := Lib.hid (I1.out.fr f2 id)
  have J2 := Lib.hid (J1.out.fr f2 id)
  have F2 := Lib.hid (fr_nil F1.out f2)
  have a2 := Te.four_cells I2.out
  have b2 := Te.four_cells J2.out
  clear f2 HX1 HY1 I1 J1 F1 a1 b1
  go_wp2_with fail
  refine (KL _ _ _ _ _ _ HX2.out.r2 HY2.out.r2 HL.out.2.2.1).mono ?_
  rintro e w3 ⟨rfl, f3⟩
  have HX3 := Lib.hid (HX2.out.fr0 f3)
  have HY3 := Lib.hid (HY2.out.fr0 f3)
  have I3 := Lib.hid (I2.out.fr f3 id)
  have J3 := Lib.hid (J2.out.fr f3 id)
  have F3 := Lib.hid (fr_nil F2.out f3)
  have a3 := Te.four_cells I3.out
  have b3 := Te.four_cells J3.out
  clear f3 HX2 HY2 I2 J2 F2 a2 b2
  go_wp2_with fail
  refine (KL _ _ _ _ _ _ HX3.out.r3 HY3.out.r3 HL.out.2.2.2).mono ?_
  rintro e w4 ⟨rfl, f4⟩
  have HX4 := Lib.hid (HX3.out.fr0 f4)
  have HY4 := Lib.hid (HY3.out.fr0 f4)
  have I4 := Lib.hid (I3.out.fr f4 id)
  have J4 := Lib.hid (J3.out.fr f4 id)
  have F4 := Lib.hid (fr_nil F3.out f4)
  have a4 := Te.four_cells I4.out
  have b4 := Te.four_cells J4.out
  clear f4 HX3 HY3 I3 J3 F3 a3 b3
  go_wp2_with fail
  go_ret
  exact ⟨rfl, F4.out⟩
end Go.Proofs.Ytfmhfngilimhjaa.Im

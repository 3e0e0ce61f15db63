/- The contracts of the document's SameStatus and SameOrders, at equal lists. Written by gen/same.py. -/
import Derived.Test.YtmohefkingnknaaTstat
namespace Go.Proofs.Ytmohefkingnknaa.Te
open Go.RowKit

set_option maxHeartbeats 1000000 in
theorem samestatus_any {x y : Sta} {w : World} (hx : x.Ok w) (hy : y.Ok w) (he : x.st = y.st) :
    Calls Try.prog 21 #[x.val, y.val] w fun e w' => e = .returned (.bool true) ∧ Fr (fun _ => False) w w' := by
  obtain ⟨⟨A0, l0, c0⟩, ⟨A1, l1, c1⟩, ⟨A2, l2, c2⟩, ⟨A3, l3, c3⟩⟩ := x
  obtain ⟨⟨B0, m0, d0⟩, ⟨B1, m1, d1⟩, ⟨B2, m2, d2⟩, ⟨B3, m3, d3⟩⟩ := y
  unfold Sta.st at he
  injection he with h0 h1 h2 h3
  simp only at h0 h1 h2 h3
  subst h0 h1 h2 h3
  unfold Sta.val
  simp only
  have i1 : Is ((w.alloc (.cells #[.slice A0 l0.length c0, .slice A1 l1.length c1, .slice A2 l2.length c2, .slice A3 l3.length c3] 26)).alloc (.cells #[.slice B0 l0.length d0, .slice B1 l1.length d1, .slice B2 l2.length d2, .slice B3 l3.length d3] 26)) w.heap.size 26 #[.slice A0 l0.length c0, .slice A1 l1.length c1, .slice A2 l2.length c2, .slice A3 l3.length c3] := (Is.new _ _ _).alloc _
  have i2 : Is ((w.alloc (.cells #[.slice A0 l0.length c0, .slice A1 l1.length c1, .slice A2 l2.length c2, .slice A3 l3.length c3] 26)).alloc (.cells #[.slice B0 l0.length d0, .slice B1 l1.length d1, .slice B2 l2.length d2, .slice B3 l3.length d3] 26)) (w.heap.size + 1) 26 #[.slice B0 l0.length d0, .slice B1 l1.length d1, .slice B2 l2.length d2, .slice B3 l3.length d3] := by
    have := Is.new (w.alloc (.cells #[.slice A0 l0.length c0, .slice A1 l1.length c1, .slice A2 l2.length c2, .slice A3 l3.length c3] 26)) 26 #[.slice B0 l0.length d0, .slice B1 l1.length d1, .slice B2 l2.length d2, .slice B3 l3.length d3]
    simpa using this
  have f0 : Fr (fun _ => False) w ((w.alloc (.cells #[.slice A0 l0.length c0, .slice A1 l1.length c1, .slice A2 l2.length c2, .slice A3 l3.length c3] 26)).alloc (.cells #[.slice B0 l0.length d0, .slice B1 l1.length d1, .slice B2 l2.length d2, .slice B3 l3.length d3] 26)) := ((Fr.refl _ w).alloc _).alloc _
  generalize hW : ((w.alloc (.cells #[.slice A0 l0.length c0, .slice A1 l1.length c1, .slice A2 l2.length c2, .slice A3 l3.length c3] 26)).alloc (.cells #[.slice B0 l0.length d0, .slice B1 l1.length d1, .slice B2 l2.length d2, .slice B3 l3.length d3] 26)) = w0 at *
  have HW := Lib.hid hW
  clear hW
  have o0 := hx.fr f0
  have o9 := hy.fr f0
  have KL := fun (W : World) (A B : Option Addr) (l : List Int) (c d : Nat) (k : (L3.mk A l c).Ok W) (k2 : (L3.mk B l d).Ok W) => sameints_any (l := l) (c := c) (c' := d) k.rd k2.rd (by have : l.length ≤ 17592186044416 := k.le; omega)
  have HX0 := Lib.hid o0
  have HY0 := Lib.hid o9
  have I0 := Lib.hid i1
  have J0 := Lib.hid i2
  have F0 := Lib.hid f0
  have a0 := four_cells i1
  have b0 := four_cells i2
  clear hx hy i1 i2 o0 o9 f0
  go_enter Try.func21, Try.ntmps21
  go_wp2_with fail
  rw [HW.out]
  refine (KL _ _ _ _ _ _ HX0.out.occ HY0.out.occ).mono ?_
  rintro e w1 ⟨rfl, f1⟩
  have HX1 := Lib.hid (HX0.out.fr f1)
  have HY1 := Lib.hid (HY0.out.fr f1)
  have I1 := Lib.hid (I0.out.fr f1 id)
  have J1 := Lib.hid (J0.out.fr f1 id)
  have F1 := Lib.hid (fr_nil F0.out f1)
  have a1 := four_cells I1.out
  have b1 := four_cells J1.out
  clear f1 HX0 HY0 I0 J0 F0 a0 b0
  go_wp2_with fail
  refine (KL _ _ _ _ _ _ HX1.out.pos HY1.out.pos).mono ?_
  rintro e w2 ⟨rfl, f2⟩
  have HX2 := Lib.hid (HX1.out.fr f2)
  have HY2 := Lib.hid (HY1.out.fr f2)
  have I2 := Lib.hid (I1.out.fr f2 id)
  have J2 := Lib.hid (J1.out.fr f2 id)
  have F2 := Lib.hid (fr_nil F1.out f2)
  have a2 := four_cells I2.out
  have b2 := four_cells J2.out
  clear f2 HX1 HY1 I1 J1 F1 a1 b1
  go_wp2_with fail
  refine (KL _ _ _ _ _ _ HX2.out.shut HY2.out.shut).mono ?_
  rintro e w3 ⟨rfl, f3⟩
  have HX3 := Lib.hid (HX2.out.fr f3)
  have HY3 := Lib.hid (HY2.out.fr f3)
  have I3 := Lib.hid (I2.out.fr f3 id)
  have J3 := Lib.hid (J2.out.fr f3 id)
  have F3 := Lib.hid (fr_nil F2.out f3)
  have a3 := four_cells I3.out
  have b3 := four_cells J3.out
  clear f3 HX2 HY2 I2 J2 F2 a2 b2
  go_wp2_with fail
  refine (KL _ _ _ _ _ _ HX3.out.lamp HY3.out.lamp).mono ?_
  rintro e w4 ⟨rfl, f4⟩
  have HX4 := Lib.hid (HX3.out.fr f4)
  have HY4 := Lib.hid (HY3.out.fr f4)
  have I4 := Lib.hid (I3.out.fr f4 id)
  have J4 := Lib.hid (J3.out.fr f4 id)
  have F4 := Lib.hid (fr_nil F3.out f4)
  have a4 := four_cells I4.out
  have b4 := four_cells J4.out
  clear f4 HX3 HY3 I3 J3 F3 a3 b3
  go_wp2_with fail
  go_ret
  exact ⟨rfl, F4.out⟩
set_option maxHeartbeats 1000000 in
theorem sameorders_any {x y : Ods} {w : World} (hx : x.Ok w) (hy : y.Ok w) (he : x.st = y.st) :
    Calls Try.prog 22 #[x.val, y.val] w fun e w' => e = .returned (.bool true) ∧ Fr (fun _ => False) w w' := by
  obtain ⟨⟨A0, l0, c0⟩, ⟨A1, l1, c1⟩, ⟨A2, l2, c2⟩⟩ := x
  obtain ⟨⟨B0, m0, d0⟩, ⟨B1, m1, d1⟩, ⟨B2, m2, d2⟩⟩ := y
  unfold Ods.st at he
  injection he with h0 h1 h2
  simp only at h0 h1 h2
  subst h0 h1 h2
  unfold Ods.val
  simp only
  have i1 : Is ((w.alloc (.cells #[.slice A0 l0.length c0, .slice A1 l1.length c1, .slice A2 l2.length c2] 28)).alloc (.cells #[.slice B0 l0.length d0, .slice B1 l1.length d1, .slice B2 l2.length d2] 28)) w.heap.size 28 #[.slice A0 l0.length c0, .slice A1 l1.length c1, .slice A2 l2.length c2] := (Is.new _ _ _).alloc _
  have i2 : Is ((w.alloc (.cells #[.slice A0 l0.length c0, .slice A1 l1.length c1, .slice A2 l2.length c2] 28)).alloc (.cells #[.slice B0 l0.length d0, .slice B1 l1.length d1, .slice B2 l2.length d2] 28)) (w.heap.size + 1) 28 #[.slice B0 l0.length d0, .slice B1 l1.length d1, .slice B2 l2.length d2] := by
    have := Is.new (w.alloc (.cells #[.slice A0 l0.length c0, .slice A1 l1.length c1, .slice A2 l2.length c2] 28)) 28 #[.slice B0 l0.length d0, .slice B1 l1.length d1, .slice B2 l2.length d2]
    simpa using this
  have f0 : Fr (fun _ => False) w ((w.alloc (.cells #[.slice A0 l0.length c0, .slice A1 l1.length c1, .slice A2 l2.length c2] 28)).alloc (.cells #[.slice B0 l0.length d0, .slice B1 l1.length d1, .slice B2 l2.length d2] 28)) := ((Fr.refl _ w).alloc _).alloc _
  generalize hW : ((w.alloc (.cells #[.slice A0 l0.length c0, .slice A1 l1.length c1, .slice A2 l2.length c2] 28)).alloc (.cells #[.slice B0 l0.length d0, .slice B1 l1.length d1, .slice B2 l2.length d2] 28)) = w0 at *
  have HW := Lib.hid hW
  clear hW
  have o0 := hx.fr f0
  have o9 := hy.fr f0
  have KL := fun (W : World) (A B : Option Addr) (l : List Int) (c d : Nat) (k : (L3.mk A l c).Ok W) (k2 : (L3.mk B l d).Ok W) => sameints_any (l := l) (c := c) (c' := d) k.rd k2.rd (by have : l.length ≤ 17592186044416 := k.le; omega)
  have HX0 := Lib.hid o0
  have HY0 := Lib.hid o9
  have I0 := Lib.hid i1
  have J0 := Lib.hid i2
  have F0 := Lib.hid f0
  have a0 := three_cells i1
  have b0 := three_cells i2
  clear hx hy i1 i2 o0 o9 f0
  go_enter Try.func22, Try.ntmps22
  go_wp2_with fail
  rw [HW.out]
  refine (KL _ _ _ _ _ _ HX0.out.pos HY0.out.pos).mono ?_
  rintro e w1 ⟨rfl, f1⟩
  have HX1 := Lib.hid (HX0.out.fr f1)
  have HY1 := Lib.hid (HY0.out.fr f1)
  have I1 := Lib.hid (I0.out.fr f1 id)
  have J1 := Lib.hid (J0.out.fr f1 id)
  have F1 := Lib.hid (fr_nil F0.out f1)
  have a1 := three_cells I1.out
  have b1 := three_cells J1.out
  clear f1 HX0 HY0 I0 J0 F0 a0 b0
  go_wp2_with fail
  refine (KL _ _ _ _ _ _ HX1.out.asp HY1.out.asp).mono ?_
  rintro e w2 ⟨rfl, f2⟩
  have HX2 := Lib.hid (HX1.out.fr f2)
  have HY2 := Lib.hid (HY1.out.fr f2)
  have I2 := Lib.hid (I1.out.fr f2 id)
  have J2 := Lib.hid (J1.out.fr f2 id)
  have F2 := Lib.hid (fr_nil F1.out f2)
  have a2 := three_cells I2.out
  have b2 := three_cells J2.out
  clear f2 HX1 HY1 I1 J1 F1 a1 b1
  go_wp2_with fail
  refine (KL _ _ _ _ _ _ HX2.out.shut HY2.out.shut).mono ?_
  rintro e w3 ⟨rfl, f3⟩
  have HX3 := Lib.hid (HX2.out.fr f3)
  have HY3 := Lib.hid (HY2.out.fr f3)
  have I3 := Lib.hid (I2.out.fr f3 id)
  have J3 := Lib.hid (J2.out.fr f3 id)
  have F3 := Lib.hid (fr_nil F2.out f3)
  have a3 := three_cells I3.out
  have b3 := three_cells J3.out
  clear f3 HX2 HY2 I2 J2 F2 a2 b2
  go_wp2_with fail
  go_ret
  exact ⟨rfl, F3.out⟩
end Go.Proofs.Ytmohefkingnknaa.Te

/- The walk of TeleBytes. -/
import Derived.Test.YtmohefkingnknaaTopen
import Derived.Test.YtmohefkingnknaaTlives
import Derived.Test.YtmohefkingnknaaTrefo
import Derived.Test.YtmohefkingnknaaTrefb
import Derived.Test.YtmohefkingnknaaTsame
namespace Go.Proofs.Ytmohefkingnknaa.Te
open Go.RowKit

theorem ten_cells {w : World} {b : Nat} {t : TypeId} {a0 a1 a2 a3 a4 a5 a6 a7 a8 a9 : Value} (h : Is w b t #[a0, a1, a2, a3, a4, a5, a6, a7, a8, a9]) : w.cell? ⟨b, 0, none⟩ = some a0 ∧ w.cell? ⟨b, 1, none⟩ = some a1 ∧ w.cell? ⟨b, 2, none⟩ = some a2 ∧ w.cell? ⟨b, 3, none⟩ = some a3 ∧ w.cell? ⟨b, 4, none⟩ = some a4 ∧ w.cell? ⟨b, 5, none⟩ = some a5 ∧ w.cell? ⟨b, 6, none⟩ = some a6 ∧ w.cell? ⟨b, 7, none⟩ = some a7 ∧ w.cell? ⟨b, 8, none⟩ = some a8 ∧ w.cell? ⟨b, 9, none⟩ = some a9 :=
  ⟨(h.cell 0).trans rfl, (h.cell 1).trans rfl, (h.cell 2).trans rfl, (h.cell 3).trans rfl, (h.cell 4).trans rfl, (h.cell 5).trans rfl, (h.cell 6).trans rfl, (h.cell 7).trans rfl, (h.cell 8).trans rfl, (h.cell 9).trans rfl⟩

set_option maxRecDepth 100000 in
set_option maxHeartbeats 4000000 in
theorem bytes_walk (h : Sta) (t : Tol) (s : ByteArray) (w : World) (hh : h.Ok w) (hs : t.s.Ok w) (ho : t.o.Ok w) :
    Calls Try.prog 3 #[h.val, t.val, .string s] w fun e w' => e = .returned (.bool true) ∧ Below w.heap.size w w' := by
  have hsh := hh.sh
  have KL := fun W => lives_any W
  have KS := fun (W : World) (k : t.s.Ok W) => status_any hsh k
  have KRS := fun (W : World) (k : t.s.Ok W) => refstatus_any (h := h.sh) k
  have KO := fun (W : World) (k : t.o.Ok W) => orders_any hsh k
  have KRO := fun (W : World) (k : t.o.Ok W) => reforders_any (h := h.sh) k
  have KB := fun (W : World) => block_any t.b.a t.b.d t.b.g W
  have KRB := fun (W : World) => refblock_any t.b.a t.b.d t.b.g W
  have KR1 := fun (W : World) => rstatus_any hsh s W
  have KR2 := fun (W : World) => refrst_any hsh s W
  have KR3 := fun (W : World) => rorders_any hsh s W
  have KR4 := fun (W : World) => refror_any hsh s W
  have KR5 := fun (W : World) => rblock_any s W
  have KR6 := fun (W : World) => refrblock_any s W
  generalize stL h.sh.hs t.s.st = Y1 at *
  generalize orL h.sh.hs t.o.st = Y2 at *
  generalize blL t.b.a t.b.d t.b.g = Y3 at *
  generalize rstL h.sh.hs (bytesOf s) = Z1 at *
  generalize rorL h.sh.hs (bytesOf s) = Z2 at *
  generalize rblL (bytesOf s) = Z3 at *
  obtain ⟨y1, e1⟩ := Y1
  obtain ⟨y2, e2⟩ := Y2
  obtain ⟨y3, e3⟩ := Y3
  obtain ⟨z1, r1⟩ := Z1
  obtain ⟨z2, r2⟩ := Z2
  obtain ⟨⟨za, zd, zg⟩, r3⟩ := Z3
  simp only at KS KRS KO KRO KB KRB KR1 KR2 KR3 KR4 KR5 KR6
  generalize (⟨y1.toArray⟩ : ByteArray) = x1 at *
  generalize (⟨y2.toArray⟩ : ByteArray) = x2 at *
  generalize (⟨y3.toArray⟩ : ByteArray) = x3 at *
  have q1 : (x1.toList == x1.toList) = true := by simp
  have q2 : (x2.toList == x2.toList) = true := by simp
  have q3 : (x3.toList == x3.toList) = true := by simp
  have fa := (Fr.refl (fun _ => False) w).alloc (.cells h.cells.toArray 24)
  have fb := fa.alloc (.cells t.cells.toArray 32)
  have ih : Is ((w.alloc (.cells h.cells.toArray 24)).alloc (.cells t.cells.toArray 32)) w.heap.size 24 h.cells.toArray := (Is.new _ _ _).alloc _
  have it : Is ((w.alloc (.cells h.cells.toArray 24)).alloc (.cells t.cells.toArray 32)) (w.heap.size + 1) 32 t.cells.toArray := by
    have := Is.new (w.alloc (.cells h.cells.toArray 24)) 32 t.cells.toArray
    simpa using this
  have HS := Lib.hid hs
  have HO := Lib.hid ho
  have G0 := Lib.hid fb
  have HB0 := Lib.hid ih
  have TB0 := Lib.hid it
  clear hh hs ho hsh fa fb ih it
  obtain ⟨⟨⟨A1, l1, k1⟩, ⟨A2, l2, k2⟩, ⟨A3, l3, k3⟩, ⟨A4, l4, k4⟩⟩, ⟨⟨P1, o1, p1⟩, ⟨P2, o2, p2⟩, ⟨P3, o3, p3⟩⟩, ⟨ba, bd, bg⟩⟩ := t
  obtain ⟨⟨S1, m1, s1⟩, ⟨S2, m2, s2⟩, ⟨S3, m3, s3⟩, ⟨S4, m4, s4⟩⟩ := h
  unfold Sta.val Tol.val Tol.cells Sta.cells Ods.cells Sta.sh Sh.val Ods.val Bl.val at *
  simp only [List.cons_append, List.nil_append] at *
  go_enter Try.func3, Try.ntmps3
-- GEN
  go_wp2_with fail
  generalize (w.alloc _).alloc _ = w0 at *
  refine (KL w0).mono ?_
  rintro e w1 ⟨rfl, f1⟩
  have HB1 := Lib.hid (HB0.out.fr f1 id)
  have TB1 := Lib.hid (TB0.out.fr f1 id)
  have G1 := Lib.hid (fr_nil G0.out f1)
  clear f1 G0 HB0 TB0
  obtain ⟨h0, h1, h2, h3⟩ := four_cells HB1.out
  obtain ⟨t0, t1, t2, t3, t4, t5, t6, t7, t8, t9⟩ := ten_cells TB1.out
  go_wp2_with fail
  clear h0 h1 h2 h3 t0 t1 t2 t3 t4 t5 t6 t7 t8 t9
  refine (KS w1 (HS.out.fr G1.out)).mono ?_
  rintro e w2 ⟨rfl, f2⟩
  have HB2 := Lib.hid (HB1.out.fr f2 id)
  have TB2 := Lib.hid (TB1.out.fr f2 id)
  have G2 := Lib.hid (fr_nil G1.out f2)
  clear f2 G1 HB1 TB1
  obtain ⟨h0, h1, h2, h3⟩ := four_cells HB2.out
  obtain ⟨t0, t1, t2, t3, t4, t5, t6, t7, t8, t9⟩ := ten_cells TB2.out
  go_wp2_with fail
  clear h0 h1 h2 h3 t0 t1 t2 t3 t4 t5 t6 t7 t8 t9
  refine (KRS w2 (HS.out.fr G2.out)).mono ?_
  rintro e w3 ⟨rfl, f3⟩
  have HB3 := Lib.hid (HB2.out.fr f3 id)
  have TB3 := Lib.hid (TB2.out.fr f3 id)
  have G3 := Lib.hid (fr_nil G2.out f3)
  clear f3 G2 HB2 TB2
  obtain ⟨h0, h1, h2, h3⟩ := four_cells HB3.out
  obtain ⟨t0, t1, t2, t3, t4, t5, t6, t7, t8, t9⟩ := ten_cells TB3.out
  go_wp2_with fail
  clear h0 h1 h2 h3 t0 t1 t2 t3 t4 t5 t6 t7 t8 t9
  refine (KO w3 (HO.out.fr G3.out)).mono ?_
  rintro e w4 ⟨rfl, f4⟩
  have HB4 := Lib.hid (HB3.out.fr f4 id)
  have TB4 := Lib.hid (TB3.out.fr f4 id)
  have G4 := Lib.hid (fr_nil G3.out f4)
  clear f4 G3 HB3 TB3
  obtain ⟨h0, h1, h2, h3⟩ := four_cells HB4.out
  obtain ⟨t0, t1, t2, t3, t4, t5, t6, t7, t8, t9⟩ := ten_cells TB4.out
  go_wp2_with fail
  clear h0 h1 h2 h3 t0 t1 t2 t3 t4 t5 t6 t7 t8 t9
  refine (KRO w4 (HO.out.fr G4.out)).mono ?_
  rintro e w5 ⟨rfl, f5⟩
  have HB5 := Lib.hid (HB4.out.fr f5 id)
  have TB5 := Lib.hid (TB4.out.fr f5 id)
  have G5 := Lib.hid (fr_nil G4.out f5)
  clear f5 G4 HB4 TB4
  obtain ⟨h0, h1, h2, h3⟩ := four_cells HB5.out
  obtain ⟨t0, t1, t2, t3, t4, t5, t6, t7, t8, t9⟩ := ten_cells TB5.out
  go_wp2_with fail
  clear h0 h1 h2 h3 t0 t1 t2 t3 t4 t5 t6 t7 t8 t9
  refine (KB w5).mono ?_
  rintro e w6 ⟨rfl, f6⟩
  have HB6 := Lib.hid (HB5.out.fr f6 id)
  have TB6 := Lib.hid (TB5.out.fr f6 id)
  have G6 := Lib.hid (fr_nil G5.out f6)
  clear f6 G5 HB5 TB5
  obtain ⟨h0, h1, h2, h3⟩ := four_cells HB6.out
  obtain ⟨t0, t1, t2, t3, t4, t5, t6, t7, t8, t9⟩ := ten_cells TB6.out
  go_wp2_with fail
  clear h0 h1 h2 h3 t0 t1 t2 t3 t4 t5 t6 t7 t8 t9
  refine (KRB w6).mono ?_
  rintro e w7 ⟨rfl, f7⟩
  have HB7 := Lib.hid (HB6.out.fr f7 id)
  have TB7 := Lib.hid (TB6.out.fr f7 id)
  have G7 := Lib.hid (fr_nil G6.out f7)
  clear f7 G6 HB6 TB6
  obtain ⟨h0, h1, h2, h3⟩ := four_cells HB7.out
  obtain ⟨t0, t1, t2, t3, t4, t5, t6, t7, t8, t9⟩ := ten_cells TB7.out
  go_wp2_with fail
  clear h0 h1 h2 h3 t0 t1 t2 t3 t4 t5 t6 t7 t8 t9
  refine (KR1 w7).mono ?_
  rintro e w8 ⟨⟨⟨AA0, aal0, aac0⟩, ⟨AA1, aal1, aac1⟩, ⟨AA2, aal2, aac2⟩, ⟨AA3, aal3, aac3⟩⟩, rfl, EA, OA8, f8⟩
  have HB8 := Lib.hid (HB7.out.fr f8 id)
  have TB8 := Lib.hid (TB7.out.fr f8 id)
  have G8 := Lib.hid (fr_nil G7.out f8)
  clear f8 G7 HB7 TB7
  have HEA := Lib.hid EA
  have RA8 := Lib.hid OA8
  clear EA OA8
  have HB9 := Lib.hid (HB8.out.alloc (.cells #[.slice AA0 aal0.length aac0, .slice AA1 aal1.length aac1, .slice AA2 aal2.length aac2, .slice AA3 aal3.length aac3] 26))
  have TB9 := Lib.hid (TB8.out.alloc (.cells #[.slice AA0 aal0.length aac0, .slice AA1 aal1.length aac1, .slice AA2 aal2.length aac2, .slice AA3 aal3.length aac3] 26))
  have RA9 := Lib.hid (RA8.out.fr ((Fr.refl (fun _ => False) w8).alloc (.cells #[.slice AA0 aal0.length aac0, .slice AA1 aal1.length aac1, .slice AA2 aal2.length aac2, .slice AA3 aal3.length aac3] 26)))
  have G9 := Lib.hid (G8.out.alloc (.cells #[.slice AA0 aal0.length aac0, .slice AA1 aal1.length aac1, .slice AA2 aal2.length aac2, .slice AA3 aal3.length aac3] 26))
  have IA9 := Lib.hid (Is.new w8 26 #[.slice AA0 aal0.length aac0, .slice AA1 aal1.length aac1, .slice AA2 aal2.length aac2, .slice AA3 aal3.length aac3])
  clear G8 HB8 TB8 RA8
  obtain ⟨h0, h1, h2, h3⟩ := four_cells HB9.out
  go_wp2_with fail
  clear h0 h1 h2 h3
  generalize w8.alloc (.cells #[.slice AA0 aal0.length aac0, .slice AA1 aal1.length aac1, .slice AA2 aal2.length aac2, .slice AA3 aal3.length aac3] 26) = w9 at *
  generalize w8.heap.size = bIA at *
  refine (KR2 w9).mono ?_
  rintro e w10 ⟨⟨⟨CC0, ccl0, ccc0⟩, ⟨CC1, ccl1, ccc1⟩, ⟨CC2, ccl2, ccc2⟩, ⟨CC3, ccl3, ccc3⟩⟩, rfl, EC, OC10, f10⟩
  have HB10 := Lib.hid (HB9.out.fr f10 id)
  have TB10 := Lib.hid (TB9.out.fr f10 id)
  have IA10 := Lib.hid (IA9.out.fr f10 id)
  have RA10 := Lib.hid (RA9.out.fr f10)
  have G10 := Lib.hid (fr_nil G9.out f10)
  clear f10 G9 HB9 TB9 IA9 RA9
  have HEC := Lib.hid EC
  have RC10 := Lib.hid OC10
  clear EC OC10
  have HB11 := Lib.hid (HB10.out.alloc (.cells #[.slice CC0 ccl0.length ccc0, .slice CC1 ccl1.length ccc1, .slice CC2 ccl2.length ccc2, .slice CC3 ccl3.length ccc3] 26))
  have TB11 := Lib.hid (TB10.out.alloc (.cells #[.slice CC0 ccl0.length ccc0, .slice CC1 ccl1.length ccc1, .slice CC2 ccl2.length ccc2, .slice CC3 ccl3.length ccc3] 26))
  have IA11 := Lib.hid (IA10.out.alloc (.cells #[.slice CC0 ccl0.length ccc0, .slice CC1 ccl1.length ccc1, .slice CC2 ccl2.length ccc2, .slice CC3 ccl3.length ccc3] 26))
  have RA11 := Lib.hid (RA10.out.fr ((Fr.refl (fun _ => False) w10).alloc (.cells #[.slice CC0 ccl0.length ccc0, .slice CC1 ccl1.length ccc1, .slice CC2 ccl2.length ccc2, .slice CC3 ccl3.length ccc3] 26)))
  have RC11 := Lib.hid (RC10.out.fr ((Fr.refl (fun _ => False) w10).alloc (.cells #[.slice CC0 ccl0.length ccc0, .slice CC1 ccl1.length ccc1, .slice CC2 ccl2.length ccc2, .slice CC3 ccl3.length ccc3] 26)))
  have G11 := Lib.hid (G10.out.alloc (.cells #[.slice CC0 ccl0.length ccc0, .slice CC1 ccl1.length ccc1, .slice CC2 ccl2.length ccc2, .slice CC3 ccl3.length ccc3] 26))
  have IC11 := Lib.hid (Is.new w10 26 #[.slice CC0 ccl0.length ccc0, .slice CC1 ccl1.length ccc1, .slice CC2 ccl2.length ccc2, .slice CC3 ccl3.length ccc3])
  clear G10 HB10 TB10 IA10 RA10 RC10
  obtain ⟨h0, h1, h2, h3⟩ := four_cells HB11.out
  go_wp2_with fail
  clear h0 h1 h2 h3
  generalize w10.alloc (.cells #[.slice CC0 ccl0.length ccc0, .slice CC1 ccl1.length ccc1, .slice CC2 ccl2.length ccc2, .slice CC3 ccl3.length ccc3] 26) = w11 at *
  generalize w10.heap.size = bIC at *
  refine (KR3 w11).mono ?_
  rintro e w12 ⟨⟨⟨DD0, ddl0, ddc0⟩, ⟨DD1, ddl1, ddc1⟩, ⟨DD2, ddl2, ddc2⟩⟩, rfl, ED, OD12, f12⟩
  have HB12 := Lib.hid (HB11.out.fr f12 id)
  have TB12 := Lib.hid (TB11.out.fr f12 id)
  have IA12 := Lib.hid (IA11.out.fr f12 id)
  have IC12 := Lib.hid (IC11.out.fr f12 id)
  have RA12 := Lib.hid (RA11.out.fr f12)
  have RC12 := Lib.hid (RC11.out.fr f12)
  have G12 := Lib.hid (fr_nil G11.out f12)
  clear f12 G11 HB11 TB11 IA11 IC11 RA11 RC11
  have HED := Lib.hid ED
  have RD12 := Lib.hid OD12
  clear ED OD12
  have HB13 := Lib.hid (HB12.out.alloc (.cells #[.slice DD0 ddl0.length ddc0, .slice DD1 ddl1.length ddc1, .slice DD2 ddl2.length ddc2] 28))
  have TB13 := Lib.hid (TB12.out.alloc (.cells #[.slice DD0 ddl0.length ddc0, .slice DD1 ddl1.length ddc1, .slice DD2 ddl2.length ddc2] 28))
  have IA13 := Lib.hid (IA12.out.alloc (.cells #[.slice DD0 ddl0.length ddc0, .slice DD1 ddl1.length ddc1, .slice DD2 ddl2.length ddc2] 28))
  have IC13 := Lib.hid (IC12.out.alloc (.cells #[.slice DD0 ddl0.length ddc0, .slice DD1 ddl1.length ddc1, .slice DD2 ddl2.length ddc2] 28))
  have RA13 := Lib.hid (RA12.out.fr ((Fr.refl (fun _ => False) w12).alloc (.cells #[.slice DD0 ddl0.length ddc0, .slice DD1 ddl1.length ddc1, .slice DD2 ddl2.length ddc2] 28)))
  have RC13 := Lib.hid (RC12.out.fr ((Fr.refl (fun _ => False) w12).alloc (.cells #[.slice DD0 ddl0.length ddc0, .slice DD1 ddl1.length ddc1, .slice DD2 ddl2.length ddc2] 28)))
  have RD13 := Lib.hid (RD12.out.fr ((Fr.refl (fun _ => False) w12).alloc (.cells #[.slice DD0 ddl0.length ddc0, .slice DD1 ddl1.length ddc1, .slice DD2 ddl2.length ddc2] 28)))
  have G13 := Lib.hid (G12.out.alloc (.cells #[.slice DD0 ddl0.length ddc0, .slice DD1 ddl1.length ddc1, .slice DD2 ddl2.length ddc2] 28))
  have ID13 := Lib.hid (Is.new w12 28 #[.slice DD0 ddl0.length ddc0, .slice DD1 ddl1.length ddc1, .slice DD2 ddl2.length ddc2])
  clear G12 HB12 TB12 IA12 IC12 RA12 RC12 RD12
  obtain ⟨h0, h1, h2, h3⟩ := four_cells HB13.out
  go_wp2_with fail
  clear h0 h1 h2 h3
  generalize w12.alloc (.cells #[.slice DD0 ddl0.length ddc0, .slice DD1 ddl1.length ddc1, .slice DD2 ddl2.length ddc2] 28) = w13 at *
  generalize w12.heap.size = bID at *
  refine (KR4 w13).mono ?_
  rintro e w14 ⟨⟨⟨EE0, eel0, eec0⟩, ⟨EE1, eel1, eec1⟩, ⟨EE2, eel2, eec2⟩⟩, rfl, EE, OE14, f14⟩
  have HB14 := Lib.hid (HB13.out.fr f14 id)
  have TB14 := Lib.hid (TB13.out.fr f14 id)
  have IA14 := Lib.hid (IA13.out.fr f14 id)
  have IC14 := Lib.hid (IC13.out.fr f14 id)
  have ID14 := Lib.hid (ID13.out.fr f14 id)
  have RA14 := Lib.hid (RA13.out.fr f14)
  have RC14 := Lib.hid (RC13.out.fr f14)
  have RD14 := Lib.hid (RD13.out.fr f14)
  have G14 := Lib.hid (fr_nil G13.out f14)
  clear f14 G13 HB13 TB13 IA13 IC13 ID13 RA13 RC13 RD13
  have HEE := Lib.hid EE
  have RE14 := Lib.hid OE14
  clear EE OE14
  have HB15 := Lib.hid (HB14.out.alloc (.cells #[.slice EE0 eel0.length eec0, .slice EE1 eel1.length eec1, .slice EE2 eel2.length eec2] 28))
  have TB15 := Lib.hid (TB14.out.alloc (.cells #[.slice EE0 eel0.length eec0, .slice EE1 eel1.length eec1, .slice EE2 eel2.length eec2] 28))
  have IA15 := Lib.hid (IA14.out.alloc (.cells #[.slice EE0 eel0.length eec0, .slice EE1 eel1.length eec1, .slice EE2 eel2.length eec2] 28))
  have IC15 := Lib.hid (IC14.out.alloc (.cells #[.slice EE0 eel0.length eec0, .slice EE1 eel1.length eec1, .slice EE2 eel2.length eec2] 28))
  have ID15 := Lib.hid (ID14.out.alloc (.cells #[.slice EE0 eel0.length eec0, .slice EE1 eel1.length eec1, .slice EE2 eel2.length eec2] 28))
  have RA15 := Lib.hid (RA14.out.fr ((Fr.refl (fun _ => False) w14).alloc (.cells #[.slice EE0 eel0.length eec0, .slice EE1 eel1.length eec1, .slice EE2 eel2.length eec2] 28)))
  have RC15 := Lib.hid (RC14.out.fr ((Fr.refl (fun _ => False) w14).alloc (.cells #[.slice EE0 eel0.length eec0, .slice EE1 eel1.length eec1, .slice EE2 eel2.length eec2] 28)))
  have RD15 := Lib.hid (RD14.out.fr ((Fr.refl (fun _ => False) w14).alloc (.cells #[.slice EE0 eel0.length eec0, .slice EE1 eel1.length eec1, .slice EE2 eel2.length eec2] 28)))
  have RE15 := Lib.hid (RE14.out.fr ((Fr.refl (fun _ => False) w14).alloc (.cells #[.slice EE0 eel0.length eec0, .slice EE1 eel1.length eec1, .slice EE2 eel2.length eec2] 28)))
  have G15 := Lib.hid (G14.out.alloc (.cells #[.slice EE0 eel0.length eec0, .slice EE1 eel1.length eec1, .slice EE2 eel2.length eec2] 28))
  have IE15 := Lib.hid (Is.new w14 28 #[.slice EE0 eel0.length eec0, .slice EE1 eel1.length eec1, .slice EE2 eel2.length eec2])
  clear G14 HB14 TB14 IA14 IC14 ID14 RA14 RC14 RD14 RE14
  obtain ⟨h0, h1, h2, h3⟩ := four_cells HB15.out
  go_wp2_with fail
  clear h0 h1 h2 h3
  generalize w14.alloc (.cells #[.slice EE0 eel0.length eec0, .slice EE1 eel1.length eec1, .slice EE2 eel2.length eec2] 28) = w15 at *
  generalize w14.heap.size = bIE at *
  refine (KR5 w15).mono ?_
  rintro e w16 ⟨rfl, f16⟩
  have HB16 := Lib.hid (HB15.out.fr f16 id)
  have TB16 := Lib.hid (TB15.out.fr f16 id)
  have IA16 := Lib.hid (IA15.out.fr f16 id)
  have IC16 := Lib.hid (IC15.out.fr f16 id)
  have ID16 := Lib.hid (ID15.out.fr f16 id)
  have IE16 := Lib.hid (IE15.out.fr f16 id)
  have RA16 := Lib.hid (RA15.out.fr f16)
  have RC16 := Lib.hid (RC15.out.fr f16)
  have RD16 := Lib.hid (RD15.out.fr f16)
  have RE16 := Lib.hid (RE15.out.fr f16)
  have G16 := Lib.hid (fr_nil G15.out f16)
  clear f16 G15 HB15 TB15 IA15 IC15 ID15 IE15 RA15 RC15 RD15 RE15
  have HB17 := Lib.hid (HB16.out.alloc (.cells #[.int .i64 za, .int .i64 zd, .int .i64 zg] 30))
  have TB17 := Lib.hid (TB16.out.alloc (.cells #[.int .i64 za, .int .i64 zd, .int .i64 zg] 30))
  have IA17 := Lib.hid (IA16.out.alloc (.cells #[.int .i64 za, .int .i64 zd, .int .i64 zg] 30))
  have IC17 := Lib.hid (IC16.out.alloc (.cells #[.int .i64 za, .int .i64 zd, .int .i64 zg] 30))
  have ID17 := Lib.hid (ID16.out.alloc (.cells #[.int .i64 za, .int .i64 zd, .int .i64 zg] 30))
  have IE17 := Lib.hid (IE16.out.alloc (.cells #[.int .i64 za, .int .i64 zd, .int .i64 zg] 30))
  have RA17 := Lib.hid (RA16.out.fr ((Fr.refl (fun _ => False) w16).alloc (.cells #[.int .i64 za, .int .i64 zd, .int .i64 zg] 30)))
  have RC17 := Lib.hid (RC16.out.fr ((Fr.refl (fun _ => False) w16).alloc (.cells #[.int .i64 za, .int .i64 zd, .int .i64 zg] 30)))
  have RD17 := Lib.hid (RD16.out.fr ((Fr.refl (fun _ => False) w16).alloc (.cells #[.int .i64 za, .int .i64 zd, .int .i64 zg] 30)))
  have RE17 := Lib.hid (RE16.out.fr ((Fr.refl (fun _ => False) w16).alloc (.cells #[.int .i64 za, .int .i64 zd, .int .i64 zg] 30)))
  have G17 := Lib.hid (G16.out.alloc (.cells #[.int .i64 za, .int .i64 zd, .int .i64 zg] 30))
  have IF17 := Lib.hid (Is.new w16 30 #[.int .i64 za, .int .i64 zd, .int .i64 zg])
  clear G16 HB16 TB16 IA16 IC16 ID16 IE16 RA16 RC16 RD16 RE16
  go_wp2_with fail
  generalize w16.alloc (.cells #[.int .i64 za, .int .i64 zd, .int .i64 zg] 30) = w17 at *
  generalize w16.heap.size = bIF at *
  refine (KR6 w17).mono ?_
  rintro e w18 ⟨rfl, f18⟩
  have HB18 := Lib.hid (HB17.out.fr f18 id)
  have TB18 := Lib.hid (TB17.out.fr f18 id)
  have IA18 := Lib.hid (IA17.out.fr f18 id)
  have IC18 := Lib.hid (IC17.out.fr f18 id)
  have ID18 := Lib.hid (ID17.out.fr f18 id)
  have IE18 := Lib.hid (IE17.out.fr f18 id)
  have IF18 := Lib.hid (IF17.out.fr f18 id)
  have RA18 := Lib.hid (RA17.out.fr f18)
  have RC18 := Lib.hid (RC17.out.fr f18)
  have RD18 := Lib.hid (RD17.out.fr f18)
  have RE18 := Lib.hid (RE17.out.fr f18)
  have G18 := Lib.hid (fr_nil G17.out f18)
  clear f18 G17 HB17 TB17 IA17 IC17 ID17 IE17 IF17 RA17 RC17 RD17 RE17
  have HB19 := Lib.hid (HB18.out.alloc (.cells #[.int .i64 za, .int .i64 zd, .int .i64 zg] 30))
  have TB19 := Lib.hid (TB18.out.alloc (.cells #[.int .i64 za, .int .i64 zd, .int .i64 zg] 30))
  have IA19 := Lib.hid (IA18.out.alloc (.cells #[.int .i64 za, .int .i64 zd, .int .i64 zg] 30))
  have IC19 := Lib.hid (IC18.out.alloc (.cells #[.int .i64 za, .int .i64 zd, .int .i64 zg] 30))
  have ID19 := Lib.hid (ID18.out.alloc (.cells #[.int .i64 za, .int .i64 zd, .int .i64 zg] 30))
  have IE19 := Lib.hid (IE18.out.alloc (.cells #[.int .i64 za, .int .i64 zd, .int .i64 zg] 30))
  have IF19 := Lib.hid (IF18.out.alloc (.cells #[.int .i64 za, .int .i64 zd, .int .i64 zg] 30))
  have RA19 := Lib.hid (RA18.out.fr ((Fr.refl (fun _ => False) w18).alloc (.cells #[.int .i64 za, .int .i64 zd, .int .i64 zg] 30)))
  have RC19 := Lib.hid (RC18.out.fr ((Fr.refl (fun _ => False) w18).alloc (.cells #[.int .i64 za, .int .i64 zd, .int .i64 zg] 30)))
  have RD19 := Lib.hid (RD18.out.fr ((Fr.refl (fun _ => False) w18).alloc (.cells #[.int .i64 za, .int .i64 zd, .int .i64 zg] 30)))
  have RE19 := Lib.hid (RE18.out.fr ((Fr.refl (fun _ => False) w18).alloc (.cells #[.int .i64 za, .int .i64 zd, .int .i64 zg] 30)))
  have G19 := Lib.hid (G18.out.alloc (.cells #[.int .i64 za, .int .i64 zd, .int .i64 zg] 30))
  have IG19 := Lib.hid (Is.new w18 30 #[.int .i64 za, .int .i64 zd, .int .i64 zg])
  clear G18 HB18 TB18 IA18 IC18 ID18 IE18 IF18 RA18 RC18 RD18 RE18
  obtain ⟨a0, a1, a2, a3⟩ := four_cells IA19.out
  obtain ⟨c0, c1, c2, c3⟩ := four_cells IC19.out
  obtain ⟨d0, d1, d2⟩ := three_cells ID19.out
  obtain ⟨e0, e1, e2⟩ := three_cells IE19.out
  obtain ⟨f0, f1, f2⟩ := three_cells IF19.out
  obtain ⟨g0, g1, g2⟩ := three_cells IG19.out
  go_wp2_with fail
  clear a0 a1 a2 a3 c0 c1 c2 c3 d0 d1 d2 e0 e1 e2 f0 f1 f2 g0 g1 g2
  generalize w18.alloc (.cells #[.int .i64 za, .int .i64 zd, .int .i64 zg] 30) = w19 at *
  generalize w18.heap.size = bIG at *
  have KQ := samestatus_any RA19.out RC19.out (HEA.out.trans HEC.out.symm)
  unfold Sta.val at KQ
  refine (KQ).mono ?_
  rintro e w20 ⟨rfl, f20⟩
  have HB20 := Lib.hid (HB19.out.fr f20 id)
  have TB20 := Lib.hid (TB19.out.fr f20 id)
  have IA20 := Lib.hid (IA19.out.fr f20 id)
  have IC20 := Lib.hid (IC19.out.fr f20 id)
  have ID20 := Lib.hid (ID19.out.fr f20 id)
  have IE20 := Lib.hid (IE19.out.fr f20 id)
  have IF20 := Lib.hid (IF19.out.fr f20 id)
  have IG20 := Lib.hid (IG19.out.fr f20 id)
  have RA20 := Lib.hid (RA19.out.fr f20)
  have RC20 := Lib.hid (RC19.out.fr f20)
  have RD20 := Lib.hid (RD19.out.fr f20)
  have RE20 := Lib.hid (RE19.out.fr f20)
  have G20 := Lib.hid (fr_nil G19.out f20)
  clear f20 G19 HB19 TB19 IA19 IC19 ID19 IE19 IF19 IG19 RA19 RC19 RD19 RE19
  clear KQ
  obtain ⟨d0, d1, d2⟩ := three_cells ID20.out
  obtain ⟨e0, e1, e2⟩ := three_cells IE20.out
  go_wp2_with fail
  clear d0 d1 d2 e0 e1 e2
  have KQ := sameorders_any RD20.out RE20.out (HED.out.trans HEE.out.symm)
  unfold Ods.val at KQ
  refine (KQ).mono ?_
  rintro e w21 ⟨rfl, f21⟩
  have HB21 := Lib.hid (HB20.out.fr f21 id)
  have TB21 := Lib.hid (TB20.out.fr f21 id)
  have IA21 := Lib.hid (IA20.out.fr f21 id)
  have IC21 := Lib.hid (IC20.out.fr f21 id)
  have ID21 := Lib.hid (ID20.out.fr f21 id)
  have IE21 := Lib.hid (IE20.out.fr f21 id)
  have IF21 := Lib.hid (IF20.out.fr f21 id)
  have IG21 := Lib.hid (IG20.out.fr f21 id)
  have RA21 := Lib.hid (RA20.out.fr f21)
  have RC21 := Lib.hid (RC20.out.fr f21)
  have RD21 := Lib.hid (RD20.out.fr f21)
  have RE21 := Lib.hid (RE20.out.fr f21)
  have G21 := Lib.hid (fr_nil G20.out f21)
  clear f21 G20 HB20 TB20 IA20 IC20 ID20 IE20 IF20 IG20 RA20 RC20 RD20 RE20
  clear KQ
  go_wp2_with fail
  go_ret
  exact ⟨rfl, G21.out.toBelow0⟩
-- DONE
end Go.Proofs.Ytmohefkingnknaa.Te

/- The contract of the document's own ReadStatus. Written by gen/refr.py. -/
import Derived.Test.YtmohefkingnknaaTrefst
import Derived.Test.YtmohefkingnknaaTrst
import Derived.Deep.Cut
namespace Go.Proofs.Ytmohefkingnknaa.Te
open Go.RowKit

theorem bytes_of_toList {s t : ByteArray} (h : s.toList = t.toList) : s = t := by
  rw [ByteArray.toList_eq, ByteArray.toList_eq] at h
  exact ByteArray.ext (Array.ext' h)
def Sta.New (x : Sta) (z : Nat) : Prop := (∀ q, blk x.occ.A = some q → z ≤ q) ∧ (∀ q, blk x.pos.A = some q → z ≤ q) ∧ (∀ q, blk x.shut.A = some q → z ≤ q) ∧ ∀ q, blk x.lamp.A = some q → z ≤ q
def Ods.New (x : Ods) (z : Nat) : Prop := (∀ q, blk x.pos.A = some q → z ≤ q) ∧ (∀ q, blk x.asp.A = some q → z ≤ q) ∧ ∀ q, blk x.shut.A = some q → z ≤ q
theorem keep4 {W : World} {b B i : Nat} {v a0 a1 a2 a3 : Value} (h : W.cell? ⟨b, i, none⟩ = some v) (hb : b ≠ B) : ((((W.setCell ⟨B, 0, none⟩ a0).setCell ⟨B, 1, none⟩ a1).setCell ⟨B, 2, none⟩ a2).setCell ⟨B, 3, none⟩ a3).cell? ⟨b, i, none⟩ = some v := by
  have hlt := World.block_lt_of_cell? _ _ h
  have f := ((((Fr.refl (fun k => k = B) W).setCell (p := ⟨B, 0, none⟩) (.inl rfl) a0).setCell (p := ⟨B, 1, none⟩) (.inl rfl) a1).setCell (p := ⟨B, 2, none⟩) (.inl rfl) a2).setCell (p := ⟨B, 3, none⟩) (.inl rfl) a3
  exact (f.cell (p := ⟨b, i, none⟩) hlt hb).trans h
theorem keep3 {W : World} {b B i : Nat} {v a0 a1 a2 : Value} (h : W.cell? ⟨b, i, none⟩ = some v) (hb : b ≠ B) : (((W.setCell ⟨B, 0, none⟩ a0).setCell ⟨B, 1, none⟩ a1).setCell ⟨B, 2, none⟩ a2).cell? ⟨b, i, none⟩ = some v := by
  have hlt := World.block_lt_of_cell? _ _ h
  have f := (((Fr.refl (fun k => k = B) W).setCell (p := ⟨B, 0, none⟩) (.inl rfl) a0).setCell (p := ⟨B, 1, none⟩) (.inl rfl) a1).setCell (p := ⟨B, 2, none⟩) (.inl rfl) a2
  exact (f.cell (p := ⟨b, i, none⟩) hlt hb).trans h
theorem rtake_ex (s : ByteArray) (a n : Nat) (w : World) (ha : a ≤ 70368744177665) (hn : n ≤ 17592186044416) :
    Calls Try.prog 39 #[.string s, .int .i64 (a : Int), .int .i64 (n : Int)] w fun e w' => ∃ (A : Option Addr) (l : List Int) (c : Nat), e = .returned (.slice A l.length c) ∧ l = cutL (bytesOf s) a n ∧ (L3.mk A l c).Ok w' ∧ (∀ q, blk A = some q → w.heap.size ≤ q ∧ q < w'.heap.size) ∧ Fr (fun _ => False) w w' :=
  (rtake_any s a n w ha hn).mono fun _ _ ⟨x, he, hl, hok, hn, f⟩ => ⟨x.A, x.l, x.c, he, hl, hok, hn, f⟩
set_option maxHeartbeats 2000000 in
theorem refrst_any {h : Sh} (hh : h.Ok) (s : ByteArray) (w : World) :
    Calls Try.prog 16 #[h.val, .string s] w fun e w' => ∃ x : Sta, e = .returned (.tuple #[x.val, .int .i64 (rstL h.hs (bytesOf s)).2]) ∧ x.st = (rstL h.hs (bytesOf s)).1 ∧ x.Ok w' ∧ Fr (fun _ => False) w w' := by
  obtain ⟨⟨A1, n1, k1⟩, ⟨A2, n2, k2⟩, ⟨A3, n3, k3⟩, ⟨A4, n4, k4⟩⟩ := h
  obtain ⟨b1, b2, b3, b4⟩ := hh
  simp only at b1 b2 b3 b4
  have K1 := fun W => rtake_ex s 1 n1 W (by omega) b1
  have K2 := fun W => rtake_ex s (1 + n1) n2 W (by omega) b2
  have K3 := fun W => rtake_ex s (1 + n1 + n2) n3 W (by omega) b3
  have K4 := fun W => rtake_ex s (1 + n1 + n2 + n3) n4 W (by omega) b4
  simp only [Int.natCast_add, show ((1 : Nat) : Int) = 1 from rfl] at K1 K2 K3 K4
  have d1 : (n1 : Int) ≤ 17592186044416 := by omega
  have d2 : (n2 : Int) ≤ 17592186044416 := by omega
  have d3 : (n3 : Int) ≤ 17592186044416 := by omega
  have d4 : (n4 : Int) ≤ 17592186044416 := by omega
  have KS := fun (x : Sta) (W : World) (k : x.Ok W) => refstatus_any (h := ⟨⟨A1, n1, k1⟩, ⟨A2, n2, k2⟩, ⟨A3, n3, k3⟩, ⟨A4, n4, k4⟩⟩) k
  have hRR : rstL ⟨n1, n2, n3, n4⟩ (bytesOf s) = if stL ⟨n1, n2, n3, n4⟩ (St.cut ⟨n1, n2, n3, n4⟩ (bytesOf s)) = (bytesOf s, 0) then (St.cut ⟨n1, n2, n3, n4⟩ (bytesOf s), 0) else (St.nil, 3) := rfl
  have fa := (Fr.refl (fun _ => False) w).alloc (.cells #[.slice A1 n1 k1, .slice A2 n2 k2, .slice A3 n3 k3, .slice A4 n4 k4] 24)
  have fb := fa.alloc (.cells #[.slice none 0 0, .slice none 0 0, .slice none 0 0, .slice none 0 0] 26)
  have ih : Is ((w.alloc (.cells #[.slice A1 n1 k1, .slice A2 n2 k2, .slice A3 n3 k3, .slice A4 n4 k4] 24)).alloc (.cells #[.slice none 0 0, .slice none 0 0, .slice none 0 0, .slice none 0 0] 26)) w.heap.size 24 #[.slice A1 n1 k1, .slice A2 n2 k2, .slice A3 n3 k3, .slice A4 n4 k4] := (Is.new _ _ _).alloc _
  have i1 := Is.new (w.alloc (.cells #[.slice A1 n1 k1, .slice A2 n2 k2, .slice A3 n3 k3, .slice A4 n4 k4] 24)) 26 #[.slice none 0 0, .slice none 0 0, .slice none 0 0, .slice none 0 0]
  simp only [World.size_alloc] at i1
  have h0 := four_cells ih
  have HRR := Lib.hid hRR
  have FB := Lib.hid fb
  have IH := Lib.hid ih
  have I1 := Lib.hid i1
  clear hRR fa fb ih i1 b1 b2 b3 b4
  unfold Sh.val Sh.hs at *
  simp only at *
  generalize rstL ⟨n1, n2, n3, n4⟩ (bytesOf s) = RR at *
  go_enter Try.func16, Try.ntmps16
  go_wp2_with fail
  go_quiet (fail)
  generalize (w.alloc _).alloc _ = w0 at *
  have F0 := Lib.hid (FB.out.drewN nq)
  have J0 : Hid (Is (w0.drewN nq) (w.heap.size + 1) _ _) := Lib.hid (I1.out.fr ((Fr.refl (fun _ => False) w0).drewN nq) id)
  have Y0 := Lib.hid (IH.out.fr ((Fr.refl (fun _ => False) w0).drewN nq) id)
  clear FB I1 IH h0
  generalize w0.drewN nq = u0 at *
  go_wp2_with fail
  have hw1 : IntKind.i64.wrap (1 + (n1 : Int)) = 1 + (n1 : Int) := by rw [IntKind.wrap_i64]; omega
  have hw2 : IntKind.i64.wrap (1 + (n1 : Int) + (n2 : Int)) = 1 + (n1 : Int) + (n2 : Int) := by rw [IntKind.wrap_i64]; omega
  have hw3 : IntKind.i64.wrap (1 + (n1 : Int) + (n2 : Int) + (n3 : Int)) = 1 + (n1 : Int) + (n2 : Int) + (n3 : Int) := by rw [IntKind.wrap_i64]; omega
  have g0 : Fr (fun _ => False) u0 u0.drew := (Fr.refl _ u0).drew
  have sl : ∀ {U : World}, Fr (fun _ => False) u0 U → U.cell? ⟨w.heap.size, 3, none⟩ = some (.slice A4 n4 k4) := fun g => ((Y0.out.fr g id).cell 3).trans rfl
  have s0 := sl g0
  have zn := fun W => Is.new W 26 #[.slice none 0 0, .slice none 0 0, .slice none 0 0, .slice none 0 0]
  have al : ∀ {U : World}, Fr (fun _ => False) u0 U → ∀ O, (U.alloc O).cell? ⟨w.heap.size, 3, none⟩ = some (.slice A4 n4 k4) := fun g O => ((Y0.out.fr (g.alloc O) id).cell 3).trans rfl
  have nb : ∀ {U : World}, Fr (fun _ => False) u0 U → w.heap.size ≠ U.heap.size := fun g => by
    have h1 := Y0.out.lt
    have h2 := g.size
    omega
  have a0 := al g0
  have al0 : ∀ {U : World} (O : Obj), Fr (fun _ => False) U (U.alloc O) := fun O => (Fr.refl _ _).alloc O
  have gz : ∀ O, Fr (fun _ => False) u0 (u0.alloc O).drew := fun O => ((Fr.refl _ u0).alloc O).drew
  have a00 : ∀ O, (u0.alloc O).drew.cell? ⟨w.heap.size, 3, none⟩ = some (.slice A4 n4 k4) := fun O => sl (gz O)
  have nb0 : w.heap.size ≠ u0.heap.size := nb (Fr.refl _ u0)
  go_cut [9] from 21 (fun v9 wx => ∃ (bs : Nat) (x : Sta), v9 = .pointer (some ⟨bs, 0, none⟩) ∧ u0.heap.size ≤ bs ∧ Is wx bs 26 x.cells.toArray ∧ x.st = St.cut ⟨n1, n2, n3, n4⟩ (bytesOf s) ∧ x.Ok wx ∧ x.New u0.heap.size ∧ Fr (fun _ => False) u0 wx)
  case first =>
    go_region_held3 (fun Wx => Wx.cell? ⟨w.heap.size, 3, none⟩ = some (.slice A4 n4 k4)) (first | with_reducible exact s0 | with_reducible exact s1 | with_reducible exact s2 | with_reducible exact s3 | with_reducible exact s4 | with_reducible exact a0 _ | with_reducible exact a1 _ | with_reducible exact a2 _ | with_reducible exact a3 _ | with_reducible exact a4 _ | with_reducible exact a00 _ | with_reducible exact keep4 s4 nb0 | with_reducible exact keep4 s4 nb1 | with_reducible exact keep4 s4 nb2 | with_reducible exact keep4 s4 nb3 | with_reducible exact keep4 s4 nb4) (first | (go_at_call 39; with_reducible refine (K4 _).mono ?_; rintro e u4 ⟨B4, l4, c4, rfl, e4, o4, m4, f4⟩; have E4 := Lib.hid e4; have O4 := Lib.hid o4; have N4 := Lib.hid m4; clear e4 o4 m4; have H4 : Hid (Fr (fun _ => False) u3 u4) := Lib.hid (by first | with_reducible exact f4 | with_reducible exact fr_nil (al0 _) f4); have g4 : Fr (fun _ => False) u0 u4 := (by first | with_reducible exact fr_nil g3 f4 | with_reducible exact fr_nil (g3.alloc _) f4); have s4 := sl g4; have a4 := al g4; have nb4 := nb g4; (first | (with_reducible have y4 := y3.fr f4 id) | (with_reducible have y4 := (zn u3).fr f4 id) | skip); (first | (obtain ⟨yc0, yc1, yc2, yc3⟩ := four_cells y4; have yz0 := y4.frozen 0; have yz1 := y4.frozen 1; have yz2 := y4.frozen 2; have yz3 := y4.frozen 3) | skip)) | (go_at_call 39; with_reducible refine (K3 _).mono ?_; rintro e u3 ⟨B3, l3, c3, rfl, e3, o3, m3, f3⟩; have E3 := Lib.hid e3; have O3 := Lib.hid o3; have N3 := Lib.hid m3; clear e3 o3 m3; have H3 : Hid (Fr (fun _ => False) u2 u3) := Lib.hid (by first | with_reducible exact f3 | with_reducible exact fr_nil (al0 _) f3); have g3 : Fr (fun _ => False) u0 u3 := (by first | with_reducible exact fr_nil g2 f3 | with_reducible exact fr_nil (g2.alloc _) f3); have s3 := sl g3; have a3 := al g3; have nb3 := nb g3; (first | (with_reducible have y3 := y2.fr f3 id) | (with_reducible have y3 := (zn u2).fr f3 id) | skip)) | (go_at_call 39; with_reducible refine (K2 _).mono ?_; rintro e u2 ⟨B2, l2, c2, rfl, e2, o2, m2, f2⟩; have E2 := Lib.hid e2; have O2 := Lib.hid o2; have N2 := Lib.hid m2; clear e2 o2 m2; have H2 : Hid (Fr (fun _ => False) u1 u2) := Lib.hid (by first | with_reducible exact f2 | with_reducible exact fr_nil (al0 _) f2); have g2 : Fr (fun _ => False) u0 u2 := (by first | with_reducible exact fr_nil g1 f2 | with_reducible exact fr_nil (g1.alloc _) f2); have s2 := sl g2; have a2 := al g2; have nb2 := nb g2; (first | (with_reducible have y2 := y1.fr f2 id) | (with_reducible have y2 := (zn u1).fr f2 id) | skip)) | (go_at_call 39; with_reducible refine (K1 _).mono ?_; rintro e u1 ⟨B1, l1, c1, rfl, e1, o1, m1, f1⟩; have E1 := Lib.hid e1; have O1 := Lib.hid o1; have N1 := Lib.hid m1; clear e1 o1 m1; have H1 : Hid (Fr (fun _ => False) u0 u1) := Lib.hid (by first | with_reducible exact f1 | with_reducible exact fr_nil (al0 _) f1 | with_reducible exact fr_nil g0 f1 | with_reducible exact fr_nil (gz _) f1); have g1 : Fr (fun _ => False) u0 u1 := (by first | with_reducible exact fr_nil g0 f1 | with_reducible exact fr_nil (g0.alloc _) f1 | with_reducible exact fr_nil (gz _) f1); have s1 := sl g1; have a1 := al g1; have nb1 := nb g1; (first | (with_reducible have y1 := (zn u0).drew.fr f1 id) | skip)))
    · go_wp2_with fail
      go_meet
      case rel =>
        exact ⟨u4.heap.size, ⟨⟨B1, l1, c1⟩, ⟨B2, l2, c2⟩, ⟨B3, l3, c3⟩, ⟨B4, l4, c4⟩⟩, rfl, g4.size, Is.new _ _ _, by unfold Sta.st St.cut; rw [E1.out, E2.out, E3.out, E4.out], ⟨(((O1.out.fr H2.out fun _ _ => id).fr H3.out fun _ _ => id).fr H4.out fun _ _ => id).fr (al0 _) fun _ _ => id, ((O2.out.fr H3.out fun _ _ => id).fr H4.out fun _ _ => id).fr (al0 _) fun _ _ => id, (O3.out.fr H4.out fun _ _ => id).fr (al0 _) fun _ _ => id, O4.out.fr (al0 _) fun _ _ => id⟩, ⟨fun q hq => by have n := (N1.out q hq).1; have := g0.size; (try simp at n); omega, fun q hq => by have n := (N2.out q hq).1; have := g1.size; (try simp at n); omega, fun q hq => by have n := (N3.out q hq).1; have := g2.size; (try simp at n); omega, fun q hq => by have n := (N4.out q hq).1; have := g3.size; (try simp at n); omega⟩, g4.alloc _⟩
    · go_wp2_with fail
      go_meet
      case rel =>
        have z1 := H1.out.size
        have z2 := H2.out.size
        have z3 := H3.out.size
        have z4 := H4.out.size
        have yl := y4.lt
        have fs := (((((Fr.refl (fun j => j = u3.heap.size) u4).setCell (p := ⟨u3.heap.size, 0, none⟩) (.inl rfl) (.slice B1 l1.length c1)).setCell (p := ⟨u3.heap.size, 1, none⟩) (.inl rfl) (.slice B2 l2.length c2)).setCell (p := ⟨u3.heap.size, 2, none⟩) (.inl rfl) (.slice B3 l3.length c3)).setCell (p := ⟨u3.heap.size, 3, none⟩) (.inl rfl) (.slice B4 l4.length c4))
        refine ⟨u3.heap.size, ⟨⟨B1, l1, c1⟩, ⟨B2, l2, c2⟩, ⟨B3, l3, c3⟩, ⟨B4, l4, c4⟩⟩, rfl, by omega, ((((y4.set 0 _).set 1 _).set 2 _).set 3 _), by unfold Sta.st St.cut; rw [E1.out, E2.out, E3.out, E4.out], ⟨(((O1.out.fr H2.out fun _ _ => id).fr H3.out fun _ _ => id).fr H4.out fun _ _ => id).fr fs ?_, ((O2.out.fr H3.out fun _ _ => id).fr H4.out fun _ _ => id).fr fs ?_, (O3.out.fr H4.out fun _ _ => id).fr fs ?_, O4.out.fr fs ?_⟩, ⟨fun q hq => by have n := (N1.out q hq).1; have := g0.size; (try simp at n); omega, fun q hq => by have n := (N2.out q hq).1; have := g1.size; (try simp at n); omega, fun q hq => by have n := (N3.out q hq).1; have := g2.size; (try simp at n); omega, fun q hq => by have n := (N4.out q hq).1; have := g3.size; (try simp at n); omega⟩, g4.trans fs fun j hj e => by omega⟩
        · exact fun q hq e => by have l := (N1.out q hq).2; have n := (N1.out q hq).1; (try simp at n); omega
        · exact fun q hq e => by have l := (N2.out q hq).2; have n := (N2.out q hq).1; (try simp at n); omega
        · exact fun q hq e => by have l := (N3.out q hq).2; have n := (N3.out q hq).1; (try simp at n); omega
        · exact fun q hq e => by have l := (N4.out q hq).2; have n := (N4.out q hq).1; (try simp at n); omega
    · go_wp2_with fail
      go_meet
      case rel =>
        have z1 := H1.out.size
        have z2 := H2.out.size
        have z3 := H3.out.size
        have z4 := H4.out.size
        have yl := y3.lt
        have fs := (((((Fr.refl (fun j => j = u2.heap.size) u4).setCell (p := ⟨u2.heap.size, 0, none⟩) (.inl rfl) (.slice B1 l1.length c1)).setCell (p := ⟨u2.heap.size, 1, none⟩) (.inl rfl) (.slice B2 l2.length c2)).setCell (p := ⟨u2.heap.size, 2, none⟩) (.inl rfl) (.slice B3 l3.length c3)).setCell (p := ⟨u2.heap.size, 3, none⟩) (.inl rfl) (.slice B4 l4.length c4))
        refine ⟨u2.heap.size, ⟨⟨B1, l1, c1⟩, ⟨B2, l2, c2⟩, ⟨B3, l3, c3⟩, ⟨B4, l4, c4⟩⟩, rfl, by omega, ((((y4.set 0 _).set 1 _).set 2 _).set 3 _), by unfold Sta.st St.cut; rw [E1.out, E2.out, E3.out, E4.out], ⟨(((O1.out.fr H2.out fun _ _ => id).fr H3.out fun _ _ => id).fr H4.out fun _ _ => id).fr fs ?_, ((O2.out.fr H3.out fun _ _ => id).fr H4.out fun _ _ => id).fr fs ?_, (O3.out.fr H4.out fun _ _ => id).fr fs ?_, O4.out.fr fs ?_⟩, ⟨fun q hq => by have n := (N1.out q hq).1; have := g0.size; (try simp at n); omega, fun q hq => by have n := (N2.out q hq).1; have := g1.size; (try simp at n); omega, fun q hq => by have n := (N3.out q hq).1; have := g2.size; (try simp at n); omega, fun q hq => by have n := (N4.out q hq).1; have := g3.size; (try simp at n); omega⟩, g4.trans fs fun j hj e => by omega⟩
        · exact fun q hq e => by have l := (N1.out q hq).2; have n := (N1.out q hq).1; (try simp at n); omega
        · exact fun q hq e => by have l := (N2.out q hq).2; have n := (N2.out q hq).1; (try simp at n); omega
        · exact fun q hq e => by have l := (N3.out q hq).2; have n := (N3.out q hq).1; (try simp at n); omega
        · exact fun q hq e => by have l := (N4.out q hq).2; have n := (N4.out q hq).1; (try simp at n); omega
    · go_wp2_with fail
      go_meet
      case rel =>
        have z1 := H1.out.size
        have z2 := H2.out.size
        have z3 := H3.out.size
        have z4 := H4.out.size
        have yl := y2.lt
        have fs := (((((Fr.refl (fun j => j = u1.heap.size) u4).setCell (p := ⟨u1.heap.size, 0, none⟩) (.inl rfl) (.slice B1 l1.length c1)).setCell (p := ⟨u1.heap.size, 1, none⟩) (.inl rfl) (.slice B2 l2.length c2)).setCell (p := ⟨u1.heap.size, 2, none⟩) (.inl rfl) (.slice B3 l3.length c3)).setCell (p := ⟨u1.heap.size, 3, none⟩) (.inl rfl) (.slice B4 l4.length c4))
        refine ⟨u1.heap.size, ⟨⟨B1, l1, c1⟩, ⟨B2, l2, c2⟩, ⟨B3, l3, c3⟩, ⟨B4, l4, c4⟩⟩, rfl, by omega, ((((y4.set 0 _).set 1 _).set 2 _).set 3 _), by unfold Sta.st St.cut; rw [E1.out, E2.out, E3.out, E4.out], ⟨(((O1.out.fr H2.out fun _ _ => id).fr H3.out fun _ _ => id).fr H4.out fun _ _ => id).fr fs ?_, ((O2.out.fr H3.out fun _ _ => id).fr H4.out fun _ _ => id).fr fs ?_, (O3.out.fr H4.out fun _ _ => id).fr fs ?_, O4.out.fr fs ?_⟩, ⟨fun q hq => by have n := (N1.out q hq).1; have := g0.size; (try simp at n); omega, fun q hq => by have n := (N2.out q hq).1; have := g1.size; (try simp at n); omega, fun q hq => by have n := (N3.out q hq).1; have := g2.size; (try simp at n); omega, fun q hq => by have n := (N4.out q hq).1; have := g3.size; (try simp at n); omega⟩, g4.trans fs fun j hj e => by omega⟩
        · exact fun q hq e => by have l := (N1.out q hq).2; have n := (N1.out q hq).1; (try simp at n); omega
        · exact fun q hq e => by have l := (N2.out q hq).2; have n := (N2.out q hq).1; (try simp at n); omega
        · exact fun q hq e => by have l := (N3.out q hq).2; have n := (N3.out q hq).1; (try simp at n); omega
        · exact fun q hq e => by have l := (N4.out q hq).2; have n := (N4.out q hq).1; (try simp at n); omega
    · go_wp2_with fail
      go_meet
      case rel =>
        have z1 := H1.out.size
        have z2 := H2.out.size
        have z3 := H3.out.size
        have z4 := H4.out.size
        have yl := y1.lt
        have fs := (((((Fr.refl (fun j => j = u0.heap.size) u4).setCell (p := ⟨u0.heap.size, 0, none⟩) (.inl rfl) (.slice B1 l1.length c1)).setCell (p := ⟨u0.heap.size, 1, none⟩) (.inl rfl) (.slice B2 l2.length c2)).setCell (p := ⟨u0.heap.size, 2, none⟩) (.inl rfl) (.slice B3 l3.length c3)).setCell (p := ⟨u0.heap.size, 3, none⟩) (.inl rfl) (.slice B4 l4.length c4))
        refine ⟨u0.heap.size, ⟨⟨B1, l1, c1⟩, ⟨B2, l2, c2⟩, ⟨B3, l3, c3⟩, ⟨B4, l4, c4⟩⟩, rfl, by omega, ((((y4.set 0 _).set 1 _).set 2 _).set 3 _), by unfold Sta.st St.cut; rw [E1.out, E2.out, E3.out, E4.out], ⟨(((O1.out.fr H2.out fun _ _ => id).fr H3.out fun _ _ => id).fr H4.out fun _ _ => id).fr fs ?_, ((O2.out.fr H3.out fun _ _ => id).fr H4.out fun _ _ => id).fr fs ?_, (O3.out.fr H4.out fun _ _ => id).fr fs ?_, O4.out.fr fs ?_⟩, ⟨fun q hq => by have n := (N1.out q hq).1; have := g0.size; (try simp at n); omega, fun q hq => by have n := (N2.out q hq).1; have := g1.size; (try simp at n); omega, fun q hq => by have n := (N3.out q hq).1; have := g2.size; (try simp at n); omega, fun q hq => by have n := (N4.out q hq).1; have := g3.size; (try simp at n); omega⟩, g4.trans fs fun j hj e => by omega⟩
        · exact fun q hq e => by have l := (N1.out q hq).2; have n := (N1.out q hq).1; (try simp at n); omega
        · exact fun q hq e => by have l := (N2.out q hq).2; have n := (N2.out q hq).1; (try simp at n); omega
        · exact fun q hq e => by have l := (N3.out q hq).2; have n := (N3.out q hq).1; (try simp at n); omega
        · exact fun q hq e => by have l := (N4.out q hq).2; have n := (N4.out q hq).1; (try simp at n); omega
  case rest =>
    clear K1 K2 K3 K4 hw1 hw2 hw3 g0 s0 sl zn al nb al0 gz a00 a0 nb0 d1 d2 d3 d4
    obtain ⟨bs, ⟨⟨Xa, la, xa⟩, ⟨Xb, lb, xb⟩, ⟨Xc, lc, xc⟩, ⟨Xd, ld, xd⟩⟩, rfl, hbs, ix, hst, ok, hnew, f⟩ := hcut
    have KX := KS _ wc ok
    rw [hst] at KX
    generalize hR2 : stL ⟨n1, n2, n3, n4⟩ (St.cut ⟨n1, n2, n3, n4⟩ (bytesOf s)) = R2 at *
    obtain ⟨y2, e2⟩ := R2
    simp only at KX
    have hby : bytesOf ⟨y2.toArray⟩ = y2 := rfl
    generalize (⟨y2.toArray⟩ : ByteArray) = tt at *
    have HBY := Lib.hid hby
    have HST := Lib.hid hst
    have HIX := Lib.hid ix
    have HOK := Lib.hid ok
    have hJ := J0.out.fr f id
    have hY := Y0.out.fr f id
    have hF := fr_nil F0.out f
    have HJ := Lib.hid hJ
    have HF := Lib.hid hF
    obtain ⟨h0, h1, h2, h3⟩ := four_cells hY
    have k0 : wc.cell? ⟨bs, 0, none⟩ = some (.slice Xa la.length xa) := (ix.cell 0).trans rfl
    have k1 : wc.cell? ⟨bs, 1, none⟩ = some (.slice Xb lb.length xb) := (ix.cell 1).trans rfl
    have k2 : wc.cell? ⟨bs, 2, none⟩ = some (.slice Xc lc.length xc) := (ix.cell 2).trans rfl
    have k3 : wc.cell? ⟨bs, 3, none⟩ = some (.slice Xd ld.length xd) := (ix.cell 3).trans rfl
    have hbl : w.heap.size + 1 < u0.heap.size := J0.out.lt
    have HLT : Hid (∀ x : L3, x ∈ [L3.mk Xa la xa, L3.mk Xb lb xb, L3.mk Xc lc xc, L3.mk Xd ld xd] → ∀ q, blk x.A = some q → q ≠ w.heap.size + 1) := Lib.hid (by
      obtain ⟨v0, v1, v2, v3⟩ := hnew
      intro x hx q hq e
      simp only [List.mem_cons, List.not_mem_nil, or_false] at hx
      rcases hx with rfl | rfl | rfl | rfl
      · have := v0 q hq
        omega
      · have := v1 q hq
        omega
      · have := v2 q hq
        omega
      · have := v3 q hq
        omega)
    clear hst ix ok hJ hY hF hby F0 J0 Y0 f KS hR2 hnew
    unfold Sta.val at KX
    simp only at KX
    go_wp2_with fail
    refine KX.mono ?_
    rintro e w9 ⟨rfl, f9⟩
    clear k0 k1 k2 k3 h0 h1 h2 h3
    have j9 := HJ.out.fr f9 id
    have i9 := HIX.out.fr f9 id
    have k0 : w9.cell? ⟨bs, 0, none⟩ = some (.slice Xa la.length xa) := (i9.cell 0).trans rfl
    have k1 : w9.cell? ⟨bs, 1, none⟩ = some (.slice Xb lb.length xb) := (i9.cell 1).trans rfl
    have k2 : w9.cell? ⟨bs, 2, none⟩ = some (.slice Xc lc.length xc) := (i9.cell 2).trans rfl
    have k3 : w9.cell? ⟨bs, 3, none⟩ = some (.slice Xd ld.length xd) := (i9.cell 3).trans rfl
    have n0 := four_cells j9
    have z0 := j9.frozen 0
    have z1 := j9.frozen 1
    have z2 := j9.frozen 2
    have z3 := j9.frozen 3
    have HF9 := Lib.hid (fr_nil HF.out f9)
    have hok9 : ∀ (W : World), Fr (fun k => k = w.heap.size + 1) w9 W → Sta.Ok W ⟨⟨Xa, la, xa⟩, ⟨Xb, lb, xb⟩, ⟨Xc, lc, xc⟩, ⟨Xd, ld, xd⟩⟩ := fun W F => by
      have o := HOK.out.fr f9
      exact ⟨o.occ.fr F fun q hq => HLT.out _ (by simp) q hq, o.pos.fr F fun q hq => HLT.out _ (by simp) q hq, o.shut.fr F fun q hq => HLT.out _ (by simp) q hq, o.lamp.fr F fun q hq => HLT.out _ (by simp) q hq⟩
    have HOK9 := Lib.hid hok9
    clear hok9 f9 i9 HJ HF HIX HOK hbl hbs
    by_cases he : e2 = 0
    · by_cases ht : tt = s
      · have b1 : (e2 != 0) = false := by simp [he]
        have b2 : (tt.toList == s.toList) = true := by rw [ht]; simp
        have hR : RR = (St.cut ⟨n1, n2, n3, n4⟩ (bytesOf s), 0) := by rw [HRR.out, if_pos (by rw [he, ← HBY.out, ht])]
        have HR := Lib.hid hR
        clear hR he ht HRR HBY
        go_wp2_with fail
        have i7 := ((((j9.set 0 (.slice Xa la.length xa)).set 1 (.slice Xb lb.length xb)).set 2 (.slice Xc lc.length xc)).set 3 (.slice Xd ld.length xd))
        have f7 := (((((Fr.refl (fun k => k = w.heap.size + 1) w9).setCell (p := ⟨w.heap.size + 1, 0, none⟩) (.inl rfl) (.slice Xa la.length xa)).setCell (p := ⟨w.heap.size + 1, 1, none⟩) (.inl rfl) (.slice Xb lb.length xb)).setCell (p := ⟨w.heap.size + 1, 2, none⟩) (.inl rfl) (.slice Xc lc.length xc)).setCell (p := ⟨w.heap.size + 1, 3, none⟩) (.inl rfl) (.slice Xd ld.length xd))
        clear n0 z0 z1 z2 z3 j9 k0 k1 k2 k3
        generalize ((((w9.setCell ⟨w.heap.size + 1, 0, none⟩ (.slice Xa la.length xa)).setCell ⟨w.heap.size + 1, 1, none⟩ (.slice Xb lb.length xb)).setCell ⟨w.heap.size + 1, 2, none⟩ (.slice Xc lc.length xc)).setCell ⟨w.heap.size + 1, 3, none⟩ (.slice Xd ld.length xd)) = W at *
        obtain ⟨m0, m1, m2, m3⟩ := four_cells i7
        refine bodyPost_ret (v := .tuple #[.agg #[.slice Xa la.length xa, .slice Xb lb.length xb, .slice Xc lc.length xc, .slice Xd ld.length xd], .int .i64 0]) (by simp [results, Try.results16, go_sem, m0, m1, m2, m3]) rfl ⟨⟨⟨Xa, la, xa⟩, ⟨Xb, lb, xb⟩, ⟨Xc, lc, xc⟩, ⟨Xd, ld, xd⟩⟩, ?_, ?_, HOK9.out _ f7, HF9.out.trans f7 fun j hj e => by omega⟩
        · rw [HR.out]; rfl
        · rw [HR.out]; exact HST.out
      · have b1 : (e2 != 0) = false := by simp [he]
        have b2 : (tt.toList == s.toList) = false := by
          rw [beq_eq_false_iff_ne]
          exact fun e => ht (bytes_of_toList e)
        have hR : RR = (St.nil, 3) := by
          rw [HRR.out, if_neg]
          intro e
          injection e with e _
          exact ht (bytesOf_inj (HBY.out.trans e))
        have HR := Lib.hid hR
        clear hR he ht HRR HBY
        go_wp2_with fail
        have i7 := ((((j9.set 0 (.slice none 0 0)).set 1 (.slice none 0 0)).set 2 (.slice none 0 0)).set 3 (.slice none 0 0))
        have f7 := (((((Fr.refl (fun k => k = w.heap.size + 1) w9).setCell (p := ⟨w.heap.size + 1, 0, none⟩) (.inl rfl) (.slice none 0 0)).setCell (p := ⟨w.heap.size + 1, 1, none⟩) (.inl rfl) (.slice none 0 0)).setCell (p := ⟨w.heap.size + 1, 2, none⟩) (.inl rfl) (.slice none 0 0)).setCell (p := ⟨w.heap.size + 1, 3, none⟩) (.inl rfl) (.slice none 0 0))
        clear n0 z0 z1 z2 z3 j9 k0 k1 k2 k3
        generalize ((((w9.setCell ⟨w.heap.size + 1, 0, none⟩ (.slice none 0 0)).setCell ⟨w.heap.size + 1, 1, none⟩ (.slice none 0 0)).setCell ⟨w.heap.size + 1, 2, none⟩ (.slice none 0 0)).setCell ⟨w.heap.size + 1, 3, none⟩ (.slice none 0 0)) = W at *
        obtain ⟨m0, m1, m2, m3⟩ := four_cells i7
        refine bodyPost_ret (v := .tuple #[.agg #[.slice none 0 0, .slice none 0 0, .slice none 0 0, .slice none 0 0], .int .i64 3]) (by simp [results, Try.results16, go_sem, m0, m1, m2, m3]) rfl ⟨nilSta, ?_, ?_, nilSta_ok _, HF9.out.trans f7 fun j hj e => by omega⟩
        · rw [HR.out]; rfl
        · rw [HR.out]; rfl
    · have b1 : (e2 != 0) = true := by simpa using he
      have hR : RR = (St.nil, 3) := by
        rw [HRR.out, if_neg]
        intro e
        injection e with _ e
        exact he e
      have HR := Lib.hid hR
      clear hR he HRR HBY
      go_wp2_with fail
      have i7 := ((((j9.set 0 (.slice none 0 0)).set 1 (.slice none 0 0)).set 2 (.slice none 0 0)).set 3 (.slice none 0 0))
      have f7 := (((((Fr.refl (fun k => k = w.heap.size + 1) w9).setCell (p := ⟨w.heap.size + 1, 0, none⟩) (.inl rfl) (.slice none 0 0)).setCell (p := ⟨w.heap.size + 1, 1, none⟩) (.inl rfl) (.slice none 0 0)).setCell (p := ⟨w.heap.size + 1, 2, none⟩) (.inl rfl) (.slice none 0 0)).setCell (p := ⟨w.heap.size + 1, 3, none⟩) (.inl rfl) (.slice none 0 0))
      clear n0 z0 z1 z2 z3 j9 k0 k1 k2 k3
      generalize ((((w9.setCell ⟨w.heap.size + 1, 0, none⟩ (.slice none 0 0)).setCell ⟨w.heap.size + 1, 1, none⟩ (.slice none 0 0)).setCell ⟨w.heap.size + 1, 2, none⟩ (.slice none 0 0)).setCell ⟨w.heap.size + 1, 3, none⟩ (.slice none 0 0)) = W at *
      obtain ⟨m0, m1, m2, m3⟩ := four_cells i7
      refine bodyPost_ret (v := .tuple #[.agg #[.slice none 0 0, .slice none 0 0, .slice none 0 0, .slice none 0 0], .int .i64 3]) (by simp [results, Try.results16, go_sem, m0, m1, m2, m3]) rfl ⟨nilSta, ?_, ?_, nilSta_ok _, HF9.out.trans f7 fun j hj e => by omega⟩
      · rw [HR.out]; rfl
      · rw [HR.out]; rfl
end Go.Proofs.Ytmohefkingnknaa.Te

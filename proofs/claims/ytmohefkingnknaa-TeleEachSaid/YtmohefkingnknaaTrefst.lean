/- The contracts of the document's own Status and Orders. Written by gen/refst.py. -/
import Derived.Test.YtmohefkingnknaaTbytes
namespace Go.Proofs.Ytmohefkingnknaa.Te
open Go.RowKit

set_option maxHeartbeats 1000000 in
theorem refstatus_any {h : Sh} {x : Sta} {w : World} (hx : x.Ok w) :
    Calls Try.prog 10 #[h.val, x.val] w fun e w' => e = .returned (.tuple #[.string ⟨(stL h.hs x.st).1.toArray⟩, .int .i64 (stL h.hs x.st).2]) ∧ Fr (fun _ => False) w w' := by
  have fa := (Fr.refl (fun _ => False) w).alloc (.cells h.cells.toArray 24)
  have fb := fa.alloc (.cells x.cells.toArray 26)
  have ih : Is ((w.alloc (.cells h.cells.toArray 24)).alloc (.cells x.cells.toArray 26)) w.heap.size 24 h.cells.toArray := (Is.new _ _ _).alloc _
  have ix : Is ((w.alloc (.cells h.cells.toArray 24)).alloc (.cells x.cells.toArray 26)) (w.heap.size + 1) 26 x.cells.toArray := by
    have := Is.new (w.alloc (.cells h.cells.toArray 24)) 26 x.cells.toArray
    simpa using this
  have hx0 := hx.fr fb
  have K0 := fun (W : World) (k : x.Ok W) => refright_any (c := x.occ.c) (n := h.s.n) (m := 1) W k.occ.rd (by have := k.occ.le; omega)
  have K1 := fun (W : World) (k : x.Ok W) => refright_any (c := x.pos.c) (n := h.p.n) (m := 2) W k.pos.rd (by have := k.pos.le; omega)
  have K2 := fun (W : World) (k : x.Ok W) => refright_any (c := x.shut.c) (n := h.c.n) (m := 1) W k.shut.rd (by have := k.shut.le; omega)
  have K3 := fun (W : World) (k : x.Ok W) => refright_any (c := x.lamp.c) (n := h.g.n) (m := 1) W k.lamp.rd (by have := k.lamp.le; omega)
  have KB := fun (W : World) (g : Nat) (k : x.Ok W) (r : Rd W (some ⟨g, 0, none⟩) ([x.occ, x.pos, x.shut, x.lamp].map L3.val)) (sm : ∀ y ∈ [x.occ, x.pos, x.shut, x.lamp], ∀ z ∈ y.l, 0 ≤ z ∧ z ≤ 255) => bytes_any (c := 4) (ls := [x.occ, x.pos, x.shut, x.lamp]) W 1 (by decide) r (by
    intro y hy
    simp only [List.mem_cons, List.not_mem_nil, or_false] at hy
    rcases hy with rfl | rfl | rfl | rfl
    · exact k.occ
    · exact k.pos
    · exact k.shut
    · exact k.lamp) sm (by simp)
  rw [show UInt8.ofNat 1 = 1 from rfl] at KB
  have hby : (1 : UInt8) :: bytesX [x.occ, x.pos, x.shut, x.lamp] = x.st.bytes := by
    show (1 : UInt8) :: (byL _ ++ (byL _ ++ (byL _ ++ (byL _ ++ [])))) = _
    rw [List.append_nil]
    rfl
  rw [hby] at KB
  have hL : stL h.hs x.st = if (okL x.occ.l h.s.n 1 && (okL x.pos.l h.p.n 2 && (okL x.shut.l h.c.n 1 && (okL x.lamp.l h.g.n 1)))) = true then (x.st.bytes, 0) else ([], 32) := rfl
  have s0 : okL x.occ.l h.s.n 1 = true → ∀ z ∈ x.occ.l, 0 ≤ z ∧ z ≤ 255 := fun e => small e (by decide)
  have s1 : okL x.pos.l h.p.n 2 = true → ∀ z ∈ x.pos.l, 0 ≤ z ∧ z ≤ 255 := fun e => small e (by decide)
  have s2 : okL x.shut.l h.c.n 1 = true → ∀ z ∈ x.shut.l, 0 ≤ z ∧ z ≤ 255 := fun e => small e (by decide)
  have s3 : okL x.lamp.l h.g.n 1 = true → ∀ z ∈ x.lamp.l, 0 ≤ z ∧ z ≤ 255 := fun e => small e (by decide)
  have HL := Lib.hid hL
  have HX := Lib.hid hx0
  have IX := Lib.hid ix
  have IH := Lib.hid ih
  have FB := Lib.hid fb
  clear hL hx hx0 ix ih fa fb hby
  generalize stL h.hs x.st = R at *
  generalize x.st.bytes = YB at *
  generalize okL x.occ.l h.s.n 1 = B0 at *
  generalize okL x.pos.l h.p.n 2 = B1 at *
  generalize okL x.shut.l h.c.n 1 = B2 at *
  generalize okL x.lamp.l h.g.n 1 = B3 at *
  unfold Sh.cells Sta.cells at *
  unfold Sh.val Sta.val at *
  have xs0 := four_cells IX.out
  have hs0 := four_cells IH.out
  have H0 := HX
  have F0 := FB
  have X0 := IX
  have Y0 := IH
  clear HX FB IX IH
  cases B0 with
  | false =>
    have HR := Lib.hid HL.out
    clear HL
    have hR : R = ([], 32) := HR.out
    have HS := Lib.hid hR
    clear hR HR
    go_enter Try.func10, Try.ntmps10
    go_wp2_with fail
    generalize (w.alloc _).alloc _ = w0 at *
    refine (K0 w0 H0.out).mono ?_
    rintro e w1 ⟨rfl, f1⟩
    have H1 := Lib.hid (H0.out.fr f1)
    have F1 := Lib.hid (fr_nil F0.out f1)
    have X1 := Lib.hid (X0.out.fr f1 id)
    have Y1 := Lib.hid (Y0.out.fr f1 id)
    have xs1 := four_cells X1.out
    have hs1 := four_cells Y1.out
    clear f1 K0 xs0 hs0 H0 F0 X0 Y0
    go_wp2_with fail
    go_ret2
    rw [HS.out]
    exact ⟨rfl, F1.out⟩
  | true =>
    cases B1 with
    | false =>
      have HR := Lib.hid HL.out
      clear HL
      have hR : R = ([], 32) := HR.out
      have HS := Lib.hid hR
      clear hR HR
      go_enter Try.func10, Try.ntmps10
      go_wp2_with fail
      generalize (w.alloc _).alloc _ = w0 at *
      refine (K0 w0 H0.out).mono ?_
      rintro e w1 ⟨rfl, f1⟩
      have H1 := Lib.hid (H0.out.fr f1)
      have F1 := Lib.hid (fr_nil F0.out f1)
      have X1 := Lib.hid (X0.out.fr f1 id)
      have Y1 := Lib.hid (Y0.out.fr f1 id)
      have xs1 := four_cells X1.out
      have hs1 := four_cells Y1.out
      clear f1 K0 xs0 hs0 H0 F0 X0 Y0
      go_wp2_with fail
      refine (K1 w1 H1.out).mono ?_
      rintro e w2 ⟨rfl, f2⟩
      have H2 := Lib.hid (H1.out.fr f2)
      have F2 := Lib.hid (fr_nil F1.out f2)
      have X2 := Lib.hid (X1.out.fr f2 id)
      have Y2 := Lib.hid (Y1.out.fr f2 id)
      have xs2 := four_cells X2.out
      have hs2 := four_cells Y2.out
      clear f2 K1 xs1 hs1 H1 F1 X1 Y1
      go_wp2_with fail
      go_ret2
      rw [HS.out]
      exact ⟨rfl, F2.out⟩
    | true =>
      cases B2 with
      | false =>
        have HR := Lib.hid HL.out
        clear HL
        have hR : R = ([], 32) := HR.out
        have HS := Lib.hid hR
        clear hR HR
        go_enter Try.func10, Try.ntmps10
        go_wp2_with fail
        generalize (w.alloc _).alloc _ = w0 at *
        refine (K0 w0 H0.out).mono ?_
        rintro e w1 ⟨rfl, f1⟩
        have H1 := Lib.hid (H0.out.fr f1)
        have F1 := Lib.hid (fr_nil F0.out f1)
        have X1 := Lib.hid (X0.out.fr f1 id)
        have Y1 := Lib.hid (Y0.out.fr f1 id)
        have xs1 := four_cells X1.out
        have hs1 := four_cells Y1.out
        clear f1 K0 xs0 hs0 H0 F0 X0 Y0
        go_wp2_with fail
        refine (K1 w1 H1.out).mono ?_
        rintro e w2 ⟨rfl, f2⟩
        have H2 := Lib.hid (H1.out.fr f2)
        have F2 := Lib.hid (fr_nil F1.out f2)
        have X2 := Lib.hid (X1.out.fr f2 id)
        have Y2 := Lib.hid (Y1.out.fr f2 id)
        have xs2 := four_cells X2.out
        have hs2 := four_cells Y2.out
        clear f2 K1 xs1 hs1 H1 F1 X1 Y1
        go_wp2_with fail
        refine (K2 w2 H2.out).mono ?_
        rintro e w3 ⟨rfl, f3⟩
        have H3 := Lib.hid (H2.out.fr f3)
        have F3 := Lib.hid (fr_nil F2.out f3)
        have X3 := Lib.hid (X2.out.fr f3 id)
        have Y3 := Lib.hid (Y2.out.fr f3 id)
        have xs3 := four_cells X3.out
        have hs3 := four_cells Y3.out
        clear f3 K2 xs2 hs2 H2 F2 X2 Y2
        go_wp2_with fail
        go_ret2
        rw [HS.out]
        exact ⟨rfl, F3.out⟩
      | true =>
        cases B3 with
        | false =>
          have HR := Lib.hid HL.out
          clear HL
          have hR : R = ([], 32) := HR.out
          have HS := Lib.hid hR
          clear hR HR
          go_enter Try.func10, Try.ntmps10
          go_wp2_with fail
          generalize (w.alloc _).alloc _ = w0 at *
          refine (K0 w0 H0.out).mono ?_
          rintro e w1 ⟨rfl, f1⟩
          have H1 := Lib.hid (H0.out.fr f1)
          have F1 := Lib.hid (fr_nil F0.out f1)
          have X1 := Lib.hid (X0.out.fr f1 id)
          have Y1 := Lib.hid (Y0.out.fr f1 id)
          have xs1 := four_cells X1.out
          have hs1 := four_cells Y1.out
          clear f1 K0 xs0 hs0 H0 F0 X0 Y0
          go_wp2_with fail
          refine (K1 w1 H1.out).mono ?_
          rintro e w2 ⟨rfl, f2⟩
          have H2 := Lib.hid (H1.out.fr f2)
          have F2 := Lib.hid (fr_nil F1.out f2)
          have X2 := Lib.hid (X1.out.fr f2 id)
          have Y2 := Lib.hid (Y1.out.fr f2 id)
          have xs2 := four_cells X2.out
          have hs2 := four_cells Y2.out
          clear f2 K1 xs1 hs1 H1 F1 X1 Y1
          go_wp2_with fail
          refine (K2 w2 H2.out).mono ?_
          rintro e w3 ⟨rfl, f3⟩
          have H3 := Lib.hid (H2.out.fr f3)
          have F3 := Lib.hid (fr_nil F2.out f3)
          have X3 := Lib.hid (X2.out.fr f3 id)
          have Y3 := Lib.hid (Y2.out.fr f3 id)
          have xs3 := four_cells X3.out
          have hs3 := four_cells Y3.out
          clear f3 K2 xs2 hs2 H2 F2 X2 Y2
          go_wp2_with fail
          refine (K3 w3 H3.out).mono ?_
          rintro e w4 ⟨rfl, f4⟩
          have H4 := Lib.hid (H3.out.fr f4)
          have F4 := Lib.hid (fr_nil F3.out f4)
          have X4 := Lib.hid (X3.out.fr f4 id)
          have Y4 := Lib.hid (Y3.out.fr f4 id)
          have xs4 := four_cells X4.out
          have hs4 := four_cells Y4.out
          clear f4 K3 xs3 hs3 H3 F3 X3 Y3
          go_wp2_with fail
          go_ret2
          rw [HS.out]
          exact ⟨rfl, F4.out⟩
        | true =>
          have HR := Lib.hid HL.out
          clear HL
          have hR : R = (YB, 0) := HR.out
          have HS := Lib.hid hR
          clear hR HR
          go_enter Try.func10, Try.ntmps10
          go_wp2_with fail
          generalize (w.alloc _).alloc _ = w0 at *
          refine (K0 w0 H0.out).mono ?_
          rintro e w1 ⟨rfl, f1⟩
          have H1 := Lib.hid (H0.out.fr f1)
          have F1 := Lib.hid (fr_nil F0.out f1)
          have X1 := Lib.hid (X0.out.fr f1 id)
          have Y1 := Lib.hid (Y0.out.fr f1 id)
          have xs1 := four_cells X1.out
          have hs1 := four_cells Y1.out
          clear f1 K0 xs0 hs0 H0 F0 X0 Y0
          go_wp2_with fail
          refine (K1 w1 H1.out).mono ?_
          rintro e w2 ⟨rfl, f2⟩
          have H2 := Lib.hid (H1.out.fr f2)
          have F2 := Lib.hid (fr_nil F1.out f2)
          have X2 := Lib.hid (X1.out.fr f2 id)
          have Y2 := Lib.hid (Y1.out.fr f2 id)
          have xs2 := four_cells X2.out
          have hs2 := four_cells Y2.out
          clear f2 K1 xs1 hs1 H1 F1 X1 Y1
          go_wp2_with fail
          refine (K2 w2 H2.out).mono ?_
          rintro e w3 ⟨rfl, f3⟩
          have H3 := Lib.hid (H2.out.fr f3)
          have F3 := Lib.hid (fr_nil F2.out f3)
          have X3 := Lib.hid (X2.out.fr f3 id)
          have Y3 := Lib.hid (Y2.out.fr f3 id)
          have xs3 := four_cells X3.out
          have hs3 := four_cells Y3.out
          clear f3 K2 xs2 hs2 H2 F2 X2 Y2
          go_wp2_with fail
          refine (K3 w3 H3.out).mono ?_
          rintro e w4 ⟨rfl, f4⟩
          have H4 := Lib.hid (H3.out.fr f4)
          have F4 := Lib.hid (fr_nil F3.out f4)
          have X4 := Lib.hid (X3.out.fr f4 id)
          have Y4 := Lib.hid (Y3.out.fr f4 id)
          have xs4 := four_cells X4.out
          have hs4 := four_cells Y4.out
          clear f4 K3 xs3 hs3 H3 F3 X3 Y3
          go_wp2_with fail
          have H9 := H4.out.fr ((Fr.refl (fun _ => False) w4).alloc (.cells ([x.occ, x.pos, x.shut, x.lamp].map L3.val).toArray 22))
          refine (KB _ _ H9 (new_rd w4 _ _) ?_).mono ?_
          · intro y hy
            simp only [List.mem_cons, List.not_mem_nil, or_false] at hy
            rcases hy with rfl | rfl | rfl | rfl
            · exact s0 trivial
            · exact s1 trivial
            · exact s2 trivial
            · exact s3 trivial
          rintro e w9 ⟨rfl, f9⟩
          have F9 := fr_nil (F4.out.alloc _) f9
          clear f9 H9 H4 F4 X4 Y4 xs4 hs4 KB
          go_wp2_with fail
          go_ret2
          rw [HS.out]
          exact ⟨rfl, F9⟩
set_option maxHeartbeats 1000000 in
theorem reforders_any {h : Sh} {x : Ods} {w : World} (hx : x.Ok w) :
    Calls Try.prog 12 #[h.val, x.val] w fun e w' => e = .returned (.tuple #[.string ⟨(orL h.hs x.st).1.toArray⟩, .int .i64 (orL h.hs x.st).2]) ∧ Fr (fun _ => False) w w' := by
  have fa := (Fr.refl (fun _ => False) w).alloc (.cells h.cells.toArray 24)
  have fb := fa.alloc (.cells x.cells.toArray 28)
  have ih : Is ((w.alloc (.cells h.cells.toArray 24)).alloc (.cells x.cells.toArray 28)) w.heap.size 24 h.cells.toArray := (Is.new _ _ _).alloc _
  have ix : Is ((w.alloc (.cells h.cells.toArray 24)).alloc (.cells x.cells.toArray 28)) (w.heap.size + 1) 28 x.cells.toArray := by
    have := Is.new (w.alloc (.cells h.cells.toArray 24)) 28 x.cells.toArray
    simpa using this
  have hx0 := hx.fr fb
  have K0 := fun (W : World) (k : x.Ok W) => refright_any (c := x.pos.c) (n := h.p.n) (m := 2) W k.pos.rd (by have := k.pos.le; omega)
  have K1 := fun (W : World) (k : x.Ok W) => refright_any (c := x.asp.c) (n := h.g.n) (m := 2) W k.asp.rd (by have := k.asp.le; omega)
  have K2 := fun (W : World) (k : x.Ok W) => refright_any (c := x.shut.c) (n := h.c.n) (m := 1) W k.shut.rd (by have := k.shut.le; omega)
  have KB := fun (W : World) (g : Nat) (k : x.Ok W) (r : Rd W (some ⟨g, 0, none⟩) ([x.pos, x.asp, x.shut].map L3.val)) (sm : ∀ y ∈ [x.pos, x.asp, x.shut], ∀ z ∈ y.l, 0 ≤ z ∧ z ≤ 255) => bytes_any (c := 3) (ls := [x.pos, x.asp, x.shut]) W 2 (by decide) r (by
    intro y hy
    simp only [List.mem_cons, List.not_mem_nil, or_false] at hy
    rcases hy with rfl | rfl | rfl
    · exact k.pos
    · exact k.asp
    · exact k.shut) sm (by simp)
  rw [show UInt8.ofNat 2 = 2 from rfl] at KB
  have hby : (2 : UInt8) :: bytesX [x.pos, x.asp, x.shut] = x.st.bytes := by
    show (2 : UInt8) :: (byL _ ++ (byL _ ++ (byL _ ++ []))) = _
    rw [List.append_nil]
    rfl
  rw [hby] at KB
  have hL : orL h.hs x.st = if (okL x.pos.l h.p.n 2 && (okL x.asp.l h.g.n 2 && (okL x.shut.l h.c.n 1))) = true then (x.st.bytes, 0) else ([], 32) := rfl
  have s0 : okL x.pos.l h.p.n 2 = true → ∀ z ∈ x.pos.l, 0 ≤ z ∧ z ≤ 255 := fun e => small e (by decide)
  have s1 : okL x.asp.l h.g.n 2 = true → ∀ z ∈ x.asp.l, 0 ≤ z ∧ z ≤ 255 := fun e => small e (by decide)
  have s2 : okL x.shut.l h.c.n 1 = true → ∀ z ∈ x.shut.l, 0 ≤ z ∧ z ≤ 255 := fun e => small e (by decide)
  have HL := Lib.hid hL
  have HX := Lib.hid hx0
  have IX := Lib.hid ix
  have IH := Lib.hid ih
  have FB := Lib.hid fb
  clear hL hx hx0 ix ih fa fb hby
  generalize orL h.hs x.st = R at *
  generalize x.st.bytes = YB at *
  generalize okL x.pos.l h.p.n 2 = B0 at *
  generalize okL x.asp.l h.g.n 2 = B1 at *
  generalize okL x.shut.l h.c.n 1 = B2 at *
  unfold Sh.cells Ods.cells at *
  unfold Sh.val Ods.val at *
  have xs0 := three_cells IX.out
  have hs0 := four_cells IH.out
  have H0 := HX
  have F0 := FB
  have X0 := IX
  have Y0 := IH
  clear HX FB IX IH
  cases B0 with
  | false =>
    have HR := Lib.hid HL.out
    clear HL
    have hR : R = ([], 32) := HR.out
    have HS := Lib.hid hR
    clear hR HR
    go_enter Try.func12, Try.ntmps12
    go_wp2_with fail
    generalize (w.alloc _).alloc _ = w0 at *
    refine (K0 w0 H0.out).mono ?_
    rintro e w1 ⟨rfl, f1⟩
    have H1 := Lib.hid (H0.out.fr f1)
    have F1 := Lib.hid (fr_nil F0.out f1)
    have X1 := Lib.hid (X0.out.fr f1 id)
    have Y1 := Lib.hid (Y0.out.fr f1 id)
    have xs1 := three_cells X1.out
    have hs1 := four_cells Y1.out
    clear f1 K0 xs0 hs0 H0 F0 X0 Y0
    go_wp2_with fail
    go_ret2
    rw [HS.out]
    exact ⟨rfl, F1.out⟩
  | true =>
    cases B1 with
    | false =>
      have HR := Lib.hid HL.out
      clear HL
      have hR : R = ([], 32) := HR.out
      have HS := Lib.hid hR
      clear hR HR
      go_enter Try.func12, Try.ntmps12
      go_wp2_with fail
      generalize (w.alloc _).alloc _ = w0 at *
      refine (K0 w0 H0.out).mono ?_
      rintro e w1 ⟨rfl, f1⟩
      have H1 := Lib.hid (H0.out.fr f1)
      have F1 := Lib.hid (fr_nil F0.out f1)
      have X1 := Lib.hid (X0.out.fr f1 id)
      have Y1 := Lib.hid (Y0.out.fr f1 id)
      have xs1 := three_cells X1.out
      have hs1 := four_cells Y1.out
      clear f1 K0 xs0 hs0 H0 F0 X0 Y0
      go_wp2_with fail
      refine (K1 w1 H1.out).mono ?_
      rintro e w2 ⟨rfl, f2⟩
      have H2 := Lib.hid (H1.out.fr f2)
      have F2 := Lib.hid (fr_nil F1.out f2)
      have X2 := Lib.hid (X1.out.fr f2 id)
      have Y2 := Lib.hid (Y1.out.fr f2 id)
      have xs2 := three_cells X2.out
      have hs2 := four_cells Y2.out
      clear f2 K1 xs1 hs1 H1 F1 X1 Y1
      go_wp2_with fail
      go_ret2
      rw [HS.out]
      exact ⟨rfl, F2.out⟩
    | true =>
      cases B2 with
      | false =>
        have HR := Lib.hid HL.out
        clear HL
        have hR : R = ([], 32) := HR.out
        have HS := Lib.hid hR
        clear hR HR
        go_enter Try.func12, Try.ntmps12
        go_wp2_with fail
        generalize (w.alloc _).alloc _ = w0 at *
        refine (K0 w0 H0.out).mono ?_
        rintro e w1 ⟨rfl, f1⟩
        have H1 := Lib.hid (H0.out.fr f1)
        have F1 := Lib.hid (fr_nil F0.out f1)
        have X1 := Lib.hid (X0.out.fr f1 id)
        have Y1 := Lib.hid (Y0.out.fr f1 id)
        have xs1 := three_cells X1.out
        have hs1 := four_cells Y1.out
        clear f1 K0 xs0 hs0 H0 F0 X0 Y0
        go_wp2_with fail
        refine (K1 w1 H1.out).mono ?_
        rintro e w2 ⟨rfl, f2⟩
        have H2 := Lib.hid (H1.out.fr f2)
        have F2 := Lib.hid (fr_nil F1.out f2)
        have X2 := Lib.hid (X1.out.fr f2 id)
        have Y2 := Lib.hid (Y1.out.fr f2 id)
        have xs2 := three_cells X2.out
        have hs2 := four_cells Y2.out
        clear f2 K1 xs1 hs1 H1 F1 X1 Y1
        go_wp2_with fail
        refine (K2 w2 H2.out).mono ?_
        rintro e w3 ⟨rfl, f3⟩
        have H3 := Lib.hid (H2.out.fr f3)
        have F3 := Lib.hid (fr_nil F2.out f3)
        have X3 := Lib.hid (X2.out.fr f3 id)
        have Y3 := Lib.hid (Y2.out.fr f3 id)
        have xs3 := three_cells X3.out
        have hs3 := four_cells Y3.out
        clear f3 K2 xs2 hs2 H2 F2 X2 Y2
        go_wp2_with fail
        go_ret2
        rw [HS.out]
        exact ⟨rfl, F3.out⟩
      | true =>
        have HR := Lib.hid HL.out
        clear HL
        have hR : R = (YB, 0) := HR.out
        have HS := Lib.hid hR
        clear hR HR
        go_enter Try.func12, Try.ntmps12
        go_wp2_with fail
        generalize (w.alloc _).alloc _ = w0 at *
        refine (K0 w0 H0.out).mono ?_
        rintro e w1 ⟨rfl, f1⟩
        have H1 := Lib.hid (H0.out.fr f1)
        have F1 := Lib.hid (fr_nil F0.out f1)
        have X1 := Lib.hid (X0.out.fr f1 id)
        have Y1 := Lib.hid (Y0.out.fr f1 id)
        have xs1 := three_cells X1.out
        have hs1 := four_cells Y1.out
        clear f1 K0 xs0 hs0 H0 F0 X0 Y0
        go_wp2_with fail
        refine (K1 w1 H1.out).mono ?_
        rintro e w2 ⟨rfl, f2⟩
        have H2 := Lib.hid (H1.out.fr f2)
        have F2 := Lib.hid (fr_nil F1.out f2)
        have X2 := Lib.hid (X1.out.fr f2 id)
        have Y2 := Lib.hid (Y1.out.fr f2 id)
        have xs2 := three_cells X2.out
        have hs2 := four_cells Y2.out
        clear f2 K1 xs1 hs1 H1 F1 X1 Y1
        go_wp2_with fail
        refine (K2 w2 H2.out).mono ?_
        rintro e w3 ⟨rfl, f3⟩
        have H3 := Lib.hid (H2.out.fr f3)
        have F3 := Lib.hid (fr_nil F2.out f3)
        have X3 := Lib.hid (X2.out.fr f3 id)
        have Y3 := Lib.hid (Y2.out.fr f3 id)
        have xs3 := three_cells X3.out
        have hs3 := four_cells Y3.out
        clear f3 K2 xs2 hs2 H2 F2 X2 Y2
        go_wp2_with fail
        have H9 := H3.out.fr ((Fr.refl (fun _ => False) w3).alloc (.cells ([x.pos, x.asp, x.shut].map L3.val).toArray 22))
        refine (KB _ _ H9 (new_rd w3 _ _) ?_).mono ?_
        · intro y hy
          simp only [List.mem_cons, List.not_mem_nil, or_false] at hy
          rcases hy with rfl | rfl | rfl
          · exact s0 trivial
          · exact s1 trivial
          · exact s2 trivial
        rintro e w9 ⟨rfl, f9⟩
        have F9 := fr_nil (F3.out.alloc _) f9
        clear f9 H9 H3 F3 X3 Y3 xs3 hs3 KB
        go_wp2_with fail
        go_ret2
        rw [HS.out]
        exact ⟨rfl, F9⟩
end Go.Proofs.Ytmohefkingnknaa.Te

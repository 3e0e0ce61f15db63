/- The walk of LinkBytes: telegrams are made, and read, as the document says. -/
import Derived.Test.YtcencpkoimahbaaLives9
import Derived.Test.YtcencpkoimahbaaRtread
namespace Go.Proofs.Ytcencpkoimahbaa
open Go.RowKit Li

theorem said_cells {w : World} {g : Nat} {p n s : Int} {x : ByteArray} (h : Is w g 23 #[.int .i64 p, .int .i64 n, .int .i64 s, .string x]) :
    w.cell? ⟨g, 0, none⟩ = some (.int .i64 p) ∧ w.cell? ⟨g, 1, none⟩ = some (.int .i64 n) ∧ w.cell? ⟨g, 2, none⟩ = some (.int .i64 s) ∧ w.cell? ⟨g, 3, none⟩ = some (.string x) :=
  ⟨h.cell 0, h.cell 1, h.cell 2, h.cell 3⟩

set_option maxRecDepth 100000 in
set_option maxHeartbeats 2000000 in
theorem bytes_walk (p n s : Int) (x text : ByteArray) (ht : text.size ≤ 140737488355328) (w : World) :
    Calls Try.prog 3 #[.agg #[.int .i64 p, .int .i64 n, .int .i64 s, .string x], .string text] w fun e w' => e = .returned (.bool true) ∧ Below w.heap.size w w' := by
  have KL := fun W => lives_any W
  have KM := fun W => make_any p n s x W
  have KN := fun W => rmake_any p n s x W
  have KR := fun W => read_any text W
  have KS := fun W => rread_any text ht W
  have i0 : Is (w.alloc (.cells #[.int .i64 p, .int .i64 n, .int .i64 s, .string x] 23)) w.heap.size 23 #[.int .i64 p, .int .i64 n, .int .i64 s, .string x] := Is.new w _ _
  have HF0 := Lib.hid ((Fr.refl (fun _ => False) w).alloc (.cells #[.int .i64 p, .int .i64 n, .int .i64 s, .string x] 23))
  obtain ⟨c00, c01, c02, c03⟩ := said_cells i0
  have hmk := fun h => read_make (p := p) (n := n) (s := s) (x := bytesOf x) h
  have hrd := make_read (l := bytesOf text)
  generalize makeL p n s (bytesOf x) = o at *
  obtain ⟨t, e0⟩ := o
  simp only at KM KN hmk
  generalize readL (bytesOf text) = y at *
  obtain ⟨yp, yn, ys, yx, ye⟩ := y
  simp only [saidV] at KR KS hrd
  have qx : (x.toList == x.toList) = true := beq_self_eq_true _
  have qt : ((⟨t.toArray⟩ : ByteArray).toList == (⟨t.toArray⟩ : ByteArray).toList) = true := beq_self_eq_true _
  have qy : ((⟨yx.toArray⟩ : ByteArray).toList == (⟨yx.toArray⟩ : ByteArray).toList) = true := beq_self_eq_true _
  have qz : (text.toList == text.toList) = true := beq_self_eq_true _
  by_cases he : e0 = 0
  · subst he
    go_enter Try.func3, Try.ntmps3
    go_wp2_with fail
    generalize w.alloc (.cells #[.int .i64 p, .int .i64 n, .int .i64 s, .string x] 23) = w0 at *
    refine (KL _).mono ?_
    rintro e w1 ⟨rfl, f1⟩
    clear KL
    have i1 := i0.fr f1 id
    have HF1 := Lib.hid (HF0.out.trans f1 fun _ _ h => h)
    obtain ⟨c10, c11, c12, c13⟩ := said_cells i1
    clear i0 HF0 c00 c01 c02 c03 f1
    go_wp2_with fail
    refine (KM _).mono ?_
    rintro e w2 ⟨rfl, f2⟩
    clear KM
    have i2 := i1.fr f2 id
    have HF2 := Lib.hid (HF1.out.trans f2 fun _ _ h => h)
    obtain ⟨c20, c21, c22, c23⟩ := said_cells i2
    clear i1 HF1 c10 c11 c12 c13 f2
    go_wp2_with fail
    refine (KN _).mono ?_
    rintro e w3 ⟨rfl, f3⟩
    clear KN
    have i3 := i2.fr f3 id
    have HF3 := Lib.hid (HF2.out.trans f3 fun _ _ h => h)
    obtain ⟨c30, c31, c32, c33⟩ := said_cells i3
    clear i2 HF2 c20 c21 c22 c23 f3
    have hbt : bytesOf ⟨t.toArray⟩ = t := rfl
    have KQ := fun W => read_any ⟨t.toArray⟩ W
    rw [hbt, hmk trivial] at KQ
    simp only at KQ
    rw [mk_bytesOf x] at KQ
    clear hbt hmk
    go_wp2_with fail
    refine (KQ _).mono ?_
    rintro e w4 ⟨rfl, f4⟩
    clear KQ
    have i4 := i3.fr f4 id
    have HF4 := Lib.hid (HF3.out.trans f4 fun _ _ h => h)
    obtain ⟨c40, c41, c42, c43⟩ := said_cells i4
    clear i3 HF3 c30 c31 c32 c33 f4
    by_cases hy : ye = 0
    · subst hy
      go_wp2_with fail
      refine (KR _).mono ?_
      rintro e w5 ⟨rfl, f5⟩
      clear KR
      have HF5 := Lib.hid (HF4.out.trans f5 fun _ _ h => h)
      clear i4 HF4 c40 c41 c42 c43 f5
      go_wp2_with fail
      refine (KS _).mono ?_
      rintro e w6 ⟨rfl, f6⟩
      have HF6 := Lib.hid (HF5.out.trans f6 fun _ _ h => h)
      clear KS HF5 f6
      go_wp2_with fail
      have KZ := fun W => make_any yp yn ys ⟨yx.toArray⟩ W
      rw [show bytesOf ⟨yx.toArray⟩ = yx from rfl, hrd trivial] at KZ
      simp only at KZ
      rw [mk_bytesOf text] at KZ
      have HF7 := Lib.hid (HF6.out.alloc (.cells #[.int .i64 yp, .int .i64 yn, .int .i64 ys, .string ⟨yx.toArray⟩] 23))
      clear hrd HF6
      refine (KZ _).mono ?_
      rintro e w7 ⟨rfl, f7⟩
      have HF8 := Lib.hid (HF7.out.trans f7 fun _ _ h => h)
      clear HF7 f7 KZ
      go_wp2_with fail
      go_ret
      exact ⟨rfl, HF8.out.toBelow0⟩
    · have hyb : (ye != 0) = true := by simpa using hy
      clear hrd
      go_wp2_with fail
      refine (KR _).mono ?_
      rintro e w5 ⟨rfl, f5⟩
      clear KR
      have HF5 := Lib.hid (HF4.out.trans f5 fun _ _ h => h)
      clear i4 HF4 c40 c41 c42 c43 f5
      go_wp2_with fail
      refine (KS _).mono ?_
      rintro e w6 ⟨rfl, f6⟩
      have HF6 := Lib.hid (HF5.out.trans f6 fun _ _ h => h)
      clear KS HF5 f6
      go_wp2_with fail
      go_ret
      exact ⟨rfl, ((HF6.out.alloc _)).toBelow0⟩
  · have heb : (e0 == 0) = false := by simpa using he
    clear hmk
    go_enter Try.func3, Try.ntmps3
    go_wp2_with fail
    generalize w.alloc (.cells #[.int .i64 p, .int .i64 n, .int .i64 s, .string x] 23) = w0 at *
    refine (KL _).mono ?_
    rintro e w1 ⟨rfl, f1⟩
    clear KL
    have i1 := i0.fr f1 id
    have HF1 := Lib.hid (HF0.out.trans f1 fun _ _ h => h)
    obtain ⟨c10, c11, c12, c13⟩ := said_cells i1
    clear i0 HF0 c00 c01 c02 c03 f1
    go_wp2_with fail
    refine (KM _).mono ?_
    rintro e w2 ⟨rfl, f2⟩
    clear KM
    have i2 := i1.fr f2 id
    have HF2 := Lib.hid (HF1.out.trans f2 fun _ _ h => h)
    obtain ⟨c20, c21, c22, c23⟩ := said_cells i2
    clear i1 HF1 c10 c11 c12 c13 f2
    go_wp2_with fail
    refine (KN _).mono ?_
    rintro e w3 ⟨rfl, f3⟩
    clear KN
    have i3 := i2.fr f3 id
    have HF3 := Lib.hid (HF2.out.trans f3 fun _ _ h => h)
    obtain ⟨c30, c31, c32, c33⟩ := said_cells i3
    clear i2 HF2 c20 c21 c22 c23 f3
    by_cases hy : ye = 0
    · subst hy
      go_wp2_with fail
      refine (KR _).mono ?_
      rintro e w5 ⟨rfl, f5⟩
      clear KR
      have HF5 := Lib.hid (HF3.out.trans f5 fun _ _ h => h)
      clear i3 HF3 c30 c31 c32 c33 f5
      go_wp2_with fail
      refine (KS _).mono ?_
      rintro e w6 ⟨rfl, f6⟩
      have HF6 := Lib.hid (HF5.out.trans f6 fun _ _ h => h)
      clear KS HF5 f6
      go_wp2_with fail
      have KZ := fun W => make_any yp yn ys ⟨yx.toArray⟩ W
      rw [show bytesOf ⟨yx.toArray⟩ = yx from rfl, hrd trivial] at KZ
      simp only at KZ
      rw [mk_bytesOf text] at KZ
      have HF7 := Lib.hid (HF6.out.alloc (.cells #[.int .i64 yp, .int .i64 yn, .int .i64 ys, .string ⟨yx.toArray⟩] 23))
      clear hrd HF6
      refine (KZ _).mono ?_
      rintro e w7 ⟨rfl, f7⟩
      have HF8 := Lib.hid (HF7.out.trans f7 fun _ _ h => h)
      clear HF7 f7 KZ
      go_wp2_with fail
      go_ret
      exact ⟨rfl, HF8.out.toBelow0⟩
    · have hyb : (ye != 0) = true := by simpa using hy
      clear hrd
      go_wp2_with fail
      refine (KR _).mono ?_
      rintro e w5 ⟨rfl, f5⟩
      clear KR
      have HF5 := Lib.hid (HF3.out.trans f5 fun _ _ h => h)
      clear i3 HF3 c30 c31 c32 c33 f5
      go_wp2_with fail
      refine (KS _).mono ?_
      rintro e w6 ⟨rfl, f6⟩
      have HF6 := Lib.hid (HF5.out.trans f6 fun _ _ h => h)
      clear KS HF5 f6
      go_wp2_with fail
      go_ret
      exact ⟨rfl, ((HF6.out.alloc _)).toBelow0⟩
end Go.Proofs.Ytcencpkoimahbaa

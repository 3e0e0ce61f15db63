/- The contracts of flags, positions, aspects, statusParts and ordersParts. -/
import Derived.Test.YtmohefkingnknaaTparts
import Derived.Deep.RegionHeld3
namespace Go.Proofs.Ytmohefkingnknaa.Te
open Go.RowKit

theorem flags_any (A : Option Addr) (n c b o : Nat) (w : World) :
    Calls Try.prog 59 #[.slice A n c, .pointer (some ⟨b, o, none⟩)] w fun e w' => e = .returned (.agg #[.int .i64 (n : Int), .int .i64 1, .pointer (some ⟨b, o, none⟩)]) ∧ Fr (fun _ => False) w w' := by
  go_enter Try.func59, Try.ntmps59
  go_wp2
  exact bodyPost_ret (v := .agg #[.int .i64 (n : Int), .int .i64 1, .pointer (some ⟨b, o, none⟩)]) (by simp [results, Try.results59, go_sem]) rfl ⟨rfl, (Fr.refl _ _).alloc _⟩
theorem positions_any (A : Option Addr) (n c b o : Nat) (w : World) :
    Calls Try.prog 60 #[.slice A n c, .pointer (some ⟨b, o, none⟩)] w fun e w' => e = .returned (.agg #[.int .i64 (n : Int), .int .i64 2, .pointer (some ⟨b, o, none⟩)]) ∧ Fr (fun _ => False) w w' := by
  go_enter Try.func60, Try.ntmps60
  go_wp2
  exact bodyPost_ret (v := .agg #[.int .i64 (n : Int), .int .i64 2, .pointer (some ⟨b, o, none⟩)]) (by simp [results, Try.results60, go_sem]) rfl ⟨rfl, (Fr.refl _ _).alloc _⟩
theorem aspects_any (A : Option Addr) (n c b o : Nat) (w : World) :
    Calls Try.prog 61 #[.slice A n c, .pointer (some ⟨b, o, none⟩)] w fun e w' => e = .returned (.agg #[.int .i64 (n : Int), .int .i64 2, .pointer (some ⟨b, o, none⟩)]) ∧ Fr (fun _ => False) w w' := by
  go_enter Try.func61, Try.ntmps61
  go_wp2
  exact bodyPost_ret (v := .agg #[.int .i64 (n : Int), .int .i64 2, .pointer (some ⟨b, o, none⟩)]) (by simp [results, Try.results61, go_sem]) rfl ⟨rfl, (Fr.refl _ _).alloc _⟩

/-- a slice of which the length alone is asked -/
structure Sl where
  A : Option Addr
  n : Nat
  c : Nat
/-- a shape, of which the sizes alone are asked -/
structure Sh where
  s : Sl
  p : Sl
  c : Sl
  g : Sl
def Sh.cells (h : Sh) : List Value := [.slice h.s.A h.s.n h.s.c, .slice h.p.A h.p.n h.p.c, .slice h.c.A h.c.n h.c.c, .slice h.g.A h.g.n h.g.c]
def Sh.val (h : Sh) : Value := .agg #[.slice h.s.A h.s.n h.s.c, .slice h.p.A h.p.n h.p.c, .slice h.c.A h.c.n h.c.c, .slice h.g.A h.g.n h.g.c]
def Sh.hs (h : Sh) : Hs := ⟨h.s.n, h.p.n, h.c.n, h.g.n⟩
structure Sh.Ok (h : Sh) : Prop where
  s : h.s.n ≤ 17592186044416
  p : h.p.n ≤ 17592186044416
  c : h.c.n ≤ 17592186044416
  g : h.g.n ≤ 17592186044416
theorem four_cells {w : World} {b : Nat} {t : TypeId} {a0 a1 a2 a3 : Value} (h : Is w b t #[a0, a1, a2, a3]) : w.cell? ⟨b, 0, none⟩ = some a0 ∧ w.cell? ⟨b, 1, none⟩ = some a1 ∧ w.cell? ⟨b, 2, none⟩ = some a2 ∧ w.cell? ⟨b, 3, none⟩ = some a3 :=
  ⟨(h.cell 0).trans rfl, (h.cell 1).trans rfl, (h.cell 2).trans rfl, (h.cell 3).trans rfl⟩
theorem new_rd (w : World) (xs : List Value) (t : TypeId) : Rd (w.alloc (.cells xs.toArray t)) (some ⟨w.heap.size, 0, none⟩) xs := fun _ =>
  ⟨w.heap.size, 0, rfl, by simp, fun j u hu => by
    rw [World.cell?_alloc_at _ _ _ _ rfl, Nat.zero_add]
    simpa using hu⟩

set_option maxHeartbeats 2000000 in
theorem sparts_any (h : Sh) (b : Nat) (w : World) :
    Calls Try.prog 27 #[h.val, .pointer (some ⟨b, 0, none⟩)] w fun e w' => ∃ g, e = .returned (.slice (some ⟨g, 0, none⟩) 4 4) ∧ Fr (fun _ => False) w w' ∧ w.heap.size ≤ g ∧
      Rd w' (some ⟨g, 0, none⟩) [.int .i64 (h.s.n : Int), .int .i64 1, .pointer (some ⟨b, 0, none⟩), .int .i64 (h.p.n : Int), .int .i64 2, .pointer (some ⟨b, 1, none⟩), .int .i64 (h.c.n : Int), .int .i64 1, .pointer (some ⟨b, 2, none⟩), .int .i64 (h.g.n : Int), .int .i64 1, .pointer (some ⟨b, 3, none⟩)] := by
  obtain ⟨⟨A1, n1, c1⟩, ⟨A2, n2, c2⟩, ⟨A3, n3, c3⟩, ⟨A4, n4, c4⟩⟩ := h
  unfold Sh.val
  simp only
  have is : Is (w.alloc (.cells #[.slice A1 n1 c1, .slice A2 n2 c2, .slice A3 n3 c3, .slice A4 n4 c4] 24)) w.heap.size 24 #[.slice A1 n1 c1, .slice A2 n2 c2, .slice A3 n3 c3, .slice A4 n4 c4] := Is.new _ _ _
  have f0 : Fr (fun _ => False) w (w.alloc (.cells #[.slice A1 n1 c1, .slice A2 n2 c2, .slice A3 n3 c3, .slice A4 n4 c4] 24)) := (Fr.refl _ w).alloc _
  generalize hw0 : w.alloc (.cells #[.slice A1 n1 c1, .slice A2 n2 c2, .slice A3 n3 c3, .slice A4 n4 c4] 24) = w0 at *
  have HW0 := Lib.hid hw0
  have s0 := four_cells is
  have KF := fun A n c o W => flags_any A n c b o W
  have KP := fun A n c o W => positions_any A n c b o W
  have IS := Lib.hid is
  clear is hw0
  go_enter Try.func27, Try.ntmps27
  go_wp2_with fail
  rw [HW0.out]
  have g3 : Fr (fun _ => False) w0 w0.drew := (Fr.refl _ w0).drew
  have s3 := four_cells (IS.out.fr g3 id)
  go_region_held3 (fun Wx => Wx.cell? ⟨w.heap.size, 0, none⟩ = some (.slice A1 n1 c1) ∧ Wx.cell? ⟨w.heap.size, 1, none⟩ = some (.slice A2 n2 c2) ∧ Wx.cell? ⟨w.heap.size, 2, none⟩ = some (.slice A3 n3 c3) ∧ Wx.cell? ⟨w.heap.size, 3, none⟩ = some (.slice A4 n4 c4)) (first | exact s3 | exact s4 | exact s5 | exact s6 | exact s7 | exact four_cells (IS.out.fr (g7.alloc _) id)) (first | (go_at_call 59; with_reducible refine (KF _ _ _ _ _).mono ?_; rintro e w7 ⟨rfl, f7⟩; have g7 := fr_nil g6 f7; have s7 := four_cells (IS.out.fr g7 id)) | (go_at_call 59; with_reducible refine (KF _ _ _ _ _).mono ?_; rintro e w6 ⟨rfl, f6⟩; have g6 := fr_nil g5 f6; have s6 := four_cells (IS.out.fr g6 id)) | (go_at_call 60; with_reducible refine (KP _ _ _ _ _).mono ?_; rintro e w5 ⟨rfl, f5⟩; have g5 := fr_nil g4 f5; have s5 := four_cells (IS.out.fr g5 id)) | (go_at_call 59; with_reducible refine (KF _ _ _ _ _).mono ?_; rintro e w4 ⟨rfl, f4⟩; have g4 := fr_nil g3 f4; have s4 := four_cells (IS.out.fr g4 id)))
  go_wp2
  go_ret
  exact ⟨_, rfl, (fr_nil f0 g7).alloc _, (fr_nil f0 g7).size, new_rd _ _ _⟩
set_option maxHeartbeats 2000000 in
theorem oparts_any (h : Sh) (b : Nat) (w : World) :
    Calls Try.prog 30 #[h.val, .pointer (some ⟨b, 0, none⟩)] w fun e w' => ∃ g, e = .returned (.slice (some ⟨g, 0, none⟩) 3 3) ∧ Fr (fun _ => False) w w' ∧ w.heap.size ≤ g ∧
      Rd w' (some ⟨g, 0, none⟩) [.int .i64 (h.p.n : Int), .int .i64 2, .pointer (some ⟨b, 0, none⟩), .int .i64 (h.g.n : Int), .int .i64 2, .pointer (some ⟨b, 1, none⟩), .int .i64 (h.c.n : Int), .int .i64 1, .pointer (some ⟨b, 2, none⟩)] := by
  obtain ⟨⟨A1, n1, c1⟩, ⟨A2, n2, c2⟩, ⟨A3, n3, c3⟩, ⟨A4, n4, c4⟩⟩ := h
  unfold Sh.val
  simp only
  have is : Is (w.alloc (.cells #[.slice A1 n1 c1, .slice A2 n2 c2, .slice A3 n3 c3, .slice A4 n4 c4] 24)) w.heap.size 24 #[.slice A1 n1 c1, .slice A2 n2 c2, .slice A3 n3 c3, .slice A4 n4 c4] := Is.new _ _ _
  have f0 : Fr (fun _ => False) w (w.alloc (.cells #[.slice A1 n1 c1, .slice A2 n2 c2, .slice A3 n3 c3, .slice A4 n4 c4] 24)) := (Fr.refl _ w).alloc _
  generalize hw0 : w.alloc (.cells #[.slice A1 n1 c1, .slice A2 n2 c2, .slice A3 n3 c3, .slice A4 n4 c4] 24) = w0 at *
  have HW0 := Lib.hid hw0
  have s0 := four_cells is
  have KF := fun A n c o W => flags_any A n c b o W
  have KP := fun A n c o W => positions_any A n c b o W
  have KA := fun A n c o W => aspects_any A n c b o W
  have IS := Lib.hid is
  clear is hw0
  go_enter Try.func30, Try.ntmps30
  go_wp2_with fail
  rw [HW0.out]
  have g3 : Fr (fun _ => False) w0 w0.drew := (Fr.refl _ w0).drew
  have s3 := four_cells (IS.out.fr g3 id)
  go_region_held3 (fun Wx => Wx.cell? ⟨w.heap.size, 0, none⟩ = some (.slice A1 n1 c1) ∧ Wx.cell? ⟨w.heap.size, 1, none⟩ = some (.slice A2 n2 c2) ∧ Wx.cell? ⟨w.heap.size, 2, none⟩ = some (.slice A3 n3 c3) ∧ Wx.cell? ⟨w.heap.size, 3, none⟩ = some (.slice A4 n4 c4)) (first | exact s3 | exact s4 | exact s5 | exact s6 | exact four_cells (IS.out.fr (g6.alloc _) id)) (first | (go_at_call 59; with_reducible refine (KF _ _ _ _ _).mono ?_; rintro e w6 ⟨rfl, f6⟩; have g6 := fr_nil g5 f6; have s6 := four_cells (IS.out.fr g6 id)) | (go_at_call 61; with_reducible refine (KA _ _ _ _ _).mono ?_; rintro e w5 ⟨rfl, f5⟩; have g5 := fr_nil g4 f5; have s5 := four_cells (IS.out.fr g5 id)) | (go_at_call 60; with_reducible refine (KP _ _ _ _ _).mono ?_; rintro e w4 ⟨rfl, f4⟩; have g4 := fr_nil g3 f4; have s4 := four_cells (IS.out.fr g4 id)))
  go_wp2
  go_ret
  exact ⟨_, rfl, (fr_nil f0 g6).alloc _, (fr_nil f0 g6).size, new_rd _ _ _⟩
end Go.Proofs.Ytmohefkingnknaa.Te

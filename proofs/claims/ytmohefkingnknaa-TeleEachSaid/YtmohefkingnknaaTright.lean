/- The contracts of measure.fits and part.right: whether a list is one of so many numbers, each 0 to so much. -/
import Derived.Test.YtmohefkingnknaaTfits
namespace Go.Proofs.Ytmohefkingnknaa.Te
open Go.RowKit

theorem fits_any {A : Option Addr} {c n : Nat} {m : Int} {a : List Int} (w : World) (ha : Rd w A (a.map (Value.int .i64))) (hal : a.length ≤ 9223372036854775807) :
    Calls Try.prog 68 #[.agg #[.int .i64 (n : Int), .int .i64 m], .slice A a.length c] w fun e w' => e = .returned (.bool (okL a n m)) ∧ Fr (fun _ => False) w w' := by
  have is : Ms (w.alloc (.cells #[.int .i64 (n : Int), .int .i64 m] 103)) w.heap.size n m := Is.new _ _ _
  have f0 : Fr (fun _ => False) w (w.alloc (.cells #[.int .i64 (n : Int), .int .i64 m] 103)) := (Fr.refl _ w).alloc _
  have K := containsi_any (c := c) _ (ha.fr f0 fun _ _ => id) hal is
  have k0 := is.cell 0
  rw [okL_out]
  generalize a.any (outB m) = B at *
  by_cases h : a.length = n
  · have e1 : decide (a.length = n) = true := by simpa using h
    have e2 : ((a.length : Int) == (n : Int)) = true := by simp [h]
    rw [e1]
    have HA := Lib.hid ha
    clear h e1 ha
    go_enter Try.func68, Try.ntmps68
    go_wp2_with fail
    refine K.mono ?_
    rintro e w1 ⟨rfl, f1⟩
    go_wp2_with fail
    go_ret
    exact ⟨by rw [Bool.true_and]; rfl, fr_nil f0 f1⟩
  · have e1 : decide (a.length = n) = false := by simpa using h
    have e2 : ((a.length : Int) == (n : Int)) = false := by
      simp
      omega
    rw [e1]
    clear h e1 ha K
    go_enter Try.func68, Try.ntmps68
    go_wp2_with fail
    go_ret
    exact ⟨rfl, f0⟩

/-- a list of a payload: how many numbers it is to have, each 0 to what; where it stands; and what it is -/
structure Pt where
  n : Nat
  m : Int
  b : Nat
  o : Nat
  A : Option Addr
  l : List Int
  c : Nat
def Pt.cells (p : Pt) : List Value := [.int .i64 (p.n : Int), .int .i64 p.m, .pointer (some ⟨p.b, p.o, none⟩)]
def Pt.val (p : Pt) : Value := .agg #[.int .i64 (p.n : Int), .int .i64 p.m, .pointer (some ⟨p.b, p.o, none⟩)]
def Pt.good (p : Pt) : Bool := okL p.l p.n p.m
structure Pt.Ok (w : World) (p : Pt) : Prop where
  at_ : w.cell? ⟨p.b, p.o, none⟩ = some (.slice p.A p.l.length p.c)
  rd : Rd w p.A (p.l.map (Value.int .i64))
  le : p.l.length ≤ 17592186044416
  ne : p.n ≤ 17592186044416
  lt2 : 0 < p.l.length → ∀ k, blk p.A = some k → k < w.heap.size
theorem Pt.Ok.lt {w : World} {p : Pt} (h : p.Ok w) : p.b < w.heap.size := World.block_lt_of_cell? w ⟨p.b, p.o, none⟩ h.at_
theorem Pt.Ok.fr {w w1 : World} {p : Pt} {S : Nat → Prop} (h : p.Ok w) (f : Fr S w w1) (h1 : ¬ S p.b) (h2 : ∀ k, blk p.A = some k → ¬ S k) : p.Ok w1 :=
  { h with at_ := (f.cell (p := ⟨p.b, p.o, none⟩) h.lt h1).trans h.at_, rd := h.rd.fr f h2, lt2 := fun h0 k hk => Nat.lt_of_lt_of_le (h.lt2 h0 k hk) f.size }

theorem right_any {w : World} {p : Pt} (h : p.Ok w) :
    Calls Try.prog 57 #[p.val] w fun e w' => e = .returned (.bool p.good) ∧ Fr (fun _ => False) w w' := by
  obtain ⟨n, m, b, o, A, l, c⟩ := p
  obtain ⟨h1, h2, h3, h4, _⟩ := h
  simp only at h1 h2 h3 h4
  unfold Pt.val Pt.good
  simp only
  have is : Is (w.alloc (.cells #[.int .i64 (n : Int), .int .i64 m, .pointer (some ⟨b, o, none⟩)] 106)) w.heap.size 106 #[.int .i64 (n : Int), .int .i64 m, .pointer (some ⟨b, o, none⟩)] := Is.new _ _ _
  have f0 : Fr (fun _ => False) w (w.alloc (.cells #[.int .i64 (n : Int), .int .i64 m, .pointer (some ⟨b, o, none⟩)] 106)) := (Fr.refl _ w).alloc _
  have k0 := cell_fro ((is.cell 0).trans rfl)
  have k1 := cell_fro ((is.cell 1).trans rfl)
  have k2 := cell_fro ((is.cell 2).trans rfl)
  have k3 := cell_fro ((f0.cell (p := ⟨b, o, none⟩) (World.block_lt_of_cell? w ⟨b, o, none⟩ h1) id).trans h1)
  have rd := rd_fro (h2.fr f0 fun _ _ => id)
  have K := fun (u : Fro (w.alloc (.cells #[.int .i64 (n : Int), .int .i64 m, .pointer (some ⟨b, o, none⟩)] 106))) => fits_any (c := c) (n := n) (m := m) u.w (rd u) (by omega)
  clear h1 h2 is
  go_enter Try.func57, Try.ntmps57
  go_wp2_with fail
  refine region_fro (by kernel_rfl) (by kernel_rfl) ?_
  repeat (go_big_quiet_step (first | (go_at_call 68; with_reducible exact call_fro (K _))))
  refine wpQuiet_nil ?_
  rintro _ ⟨⟨w4, f4⟩, rfl⟩
  go_wp2
  go_ret
  exact ⟨rfl, fr_nil f0 f4⟩
end Go.Proofs.Ytmohefkingnknaa.Te

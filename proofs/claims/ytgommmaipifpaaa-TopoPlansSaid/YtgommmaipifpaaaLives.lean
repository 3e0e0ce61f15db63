/- The contract of lives: the fixed example that each law begins with. -/
import Derived.Test.YtgommmaipifpaaaSame
import Derived.Deep.DeepFit
namespace Go.Proofs.Ytgommmaipifpaaa
open Go.RowKit

def exS : List Sec := [⟨0, 0, 0⟩, ⟨1, 0, 0⟩, ⟨0, 0, 0⟩, ⟨0, 0, 0⟩]
def exJ : List Jo := [⟨0, 1, 1, 0⟩, ⟨1, 1, 2, 0⟩, ⟨1, 2, 3, 0⟩]
def exT : List St := [⟨0, 0, 1⟩, ⟨1, 0, 2⟩, ⟨3, 0, 1⟩]
theorem ex_follow : followM exS exJ 0 0 [0, 2] = exT := by kernel_rfl
theorem ex_check : errOf (checkB exS exJ) = 0 := by kernel_rfl

theorem lit_rd_at {w : World} {n : Nat} (h : w.heap.size = n) (cs : List Value) (t : TypeId) : Rd (w.alloc (.cells cs.toArray t)) (some ⟨n, 0, none⟩) cs := by
  subst h
  exact lit_rd w cs t

theorem is_new_at {w : World} {n : Nat} (h : w.heap.size = n) (t : TypeId) (cs : Array Value) : Is (w.alloc (.cells cs t)) n t cs := by
  subst h
  exact Is.new w t cs

set_option maxHeartbeats 1000000 in
theorem lives_any (w : World) : Calls Try.prog 10 #[] w fun e w' => e = .returned (.bool true) ∧ Fr (fun _ => False) w w' := by
  have KF := fun A1 A2 A3 W h1 h2 h3 => follow_any (A1 := A1) (A2 := A2) (A3 := A3) (c1 := 4) (c2 := 3) (c3 := 2) (l := exS) (js := exJ) (p := [0, 2]) 0 0 W h1 h2 h3 (by decide) (by decide) (by decide)
  have KC := fun A1 A2 W h1 h2 => check_any (A1 := A1) (A2 := A2) (c1 := 4) (c2 := 3) (l := exS) (js := exJ) W h1 h2 (by decide) (by decide) (by decide)
  rw [ex_follow] at KF
  rw [ex_check] at KC
  go_enter Try.func10, Try.ntmps10
  go_wp2_with fail
  refine (KF (some ⟨w.heap.size, 0, none⟩) (some ⟨w.heap.size + 1, 0, none⟩) (some ⟨w.heap.size + 3, 0, none⟩) _ ?_ ?_ ?_).mono ?_
  · exact (lit_rd w (cellsS exS) _).fr ((((Fr.refl (fun _ => False) _).alloc _).alloc _).alloc _) fun _ _ => id
  · exact (lit_rd_at (by simp) (cellsJ exJ) _).fr (((Fr.refl (fun _ => False) _).alloc _).alloc _) fun _ _ => id
  · exact lit_rd_at (by simp) ([0, 2].map (Value.int .i64)) _
  clear KF
  rintro e w1 ⟨A, c, rfl, hown, f1⟩
  have f2 : Fr (fun _ => False) w w1 := fr_nil ((((Fr.refl (fun _ => False) w).alloc _).alloc _).alloc _ |>.alloc _) f1
  have r1 : Rd w1 (some ⟨w.heap.size, 0, none⟩) (cellsS exS) := (lit_rd w (cellsS exS) _).fr (fr_nil ((((Fr.refl (fun _ => False) _).alloc _).alloc _).alloc _) f1) fun _ _ => id
  have r2 : Rd w1 (some ⟨w.heap.size + 1, 0, none⟩) (cellsJ exJ) := (lit_rd_at (by simp) (cellsJ exJ) _).fr (fr_nil (((Fr.refl (fun _ => False) _).alloc _).alloc _) f1) fun _ _ => id
  have is2 : Is w1 (w.heap.size + 2) 25 #[.slice (some ⟨w.heap.size, 0, none⟩) 4 4, .slice (some ⟨w.heap.size + 1, 0, none⟩) 3 3] := (is_new_at (by simp) _ _).fr (fr_nil ((Fr.refl (fun _ => False) _).alloc _) f1) id
  have rd := wide_rd hown
  have k0 := is2.cell 0
  have k1 := is2.cell 1
  clear f1 hown is2
  go_wp2_with fail
  refine (KC (some ⟨w.heap.size, 0, none⟩) (some ⟨w.heap.size + 1, 0, none⟩) _ r1 r2).mono ?_
  clear KC
  rintro e w2 ⟨rfl, f3⟩
  have rd2 := rd.fr f3 fun _ _ => id
  clear k0 k1
  go_wp2_with fail
  refine (samesteps_any (l := exT) (rd2.fr ((Fr.refl (fun _ => False) _).alloc _) fun _ _ => id) (lit_rd w2 (cellsT exT) _) (by decide)).mono ?_
  rintro e w3 ⟨rfl, f4⟩
  go_wp2_with fail
  go_ret
  exact ⟨rfl, fr_nil (fr_nil f2 f3) (fr_nil ((Fr.refl (fun _ => False) _).alloc _) f4)⟩
end Go.Proofs.Ytgommmaipifpaaa

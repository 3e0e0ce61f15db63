/- The contracts of what calls nothing else: how many ends a kind has, its ways, the far end of a way, whether it is open. -/
import Derived.Test.YtgommmaipifpaaaWide
import Derived.Test.YtgommmaipifpaaaTrack
import Derived.Outline
namespace Go.Proofs.Ytgommmaipifpaaa
open Go.RowKit

theorem ends_any (k : Int) (w : World) : Calls Try.prog 19 #[.int .i64 k] w fun e w' => e = .returned (.int .i64 (endsM k)) ∧ w = w' := by
  unfold endsM
  go_enter Try.func19, Try.ntmps19
  go_wp2
  all_goals go_ret
  all_goals simp_all

/-- the cells of a way -/
def Wy.cells (v : Wy) : List Value := [.int .i64 v.a, .int .i64 v.b, .int .i64 v.pos]
def cellsW (l : List Wy) : List Value := l.flatMap Wy.cells

theorem from_any (v : Wy) (i : Int) (w : World) : Calls Try.prog 31 #[.agg #[.int .i64 v.a, .int .i64 v.b, .int .i64 v.pos], .int .i64 i] w fun e w' => e = .returned (.tuple #[.int .i64 (farOut v i), .bool (farOk v i)]) ∧ Fr (fun _ => False) w w' := by
  obtain ⟨a, b, p⟩ := v
  by_cases h1 : i = a
  · rw [show farOut ⟨a, b, p⟩ i = b from if_pos h1, show farOk ⟨a, b, p⟩ i = true by simp [farOk, h1]]
    have e1 : (i == a) = true := by simp [h1]
    clear h1
    go_enter Try.func31, Try.ntmps31
    go_wp2
    go_ret2
    exact ⟨rfl, (Fr.refl _ _).alloc _⟩
  · have e1 : (i == a) = false := by simp [h1]
    by_cases h2 : i = b
    · rw [show farOut ⟨a, b, p⟩ i = a by simp [farOut, h2], show farOk ⟨a, b, p⟩ i = true by simp [farOk, h2]]
      have e2 : (i == b) = true := by simp [h2]
      clear h1 h2
      go_enter Try.func31, Try.ntmps31
      go_wp2
      go_ret2
      exact ⟨rfl, (Fr.refl _ _).alloc _⟩
    · rw [show farOut ⟨a, b, p⟩ i = 0 by simp [farOut, h1, h2], show farOk ⟨a, b, p⟩ i = false by simp [farOk, h1, h2]]
      have e2 : (i == b) = false := by simp [h2]
      clear h1 h2
      go_enter Try.func31, Try.ntmps31
      go_wp2
      go_ret2
      exact ⟨rfl, (Fr.refl _ _).alloc _⟩

theorem open_any (v : Wy) (p : Int) (w : World) : Calls Try.prog 32 #[.agg #[.int .i64 v.a, .int .i64 v.b, .int .i64 v.pos], .int .i64 p] w fun e w' => e = .returned (.bool (opn v p)) ∧ Fr (fun _ => False) w w' := by
  obtain ⟨a, b, q⟩ := v
  by_cases h1 : q = 0
  · rw [show opn ⟨a, b, q⟩ p = true by simp [opn, h1]]
    have e1 : (q == 0) = true := by simp [h1]
    clear h1
    go_enter Try.func32, Try.ntmps32
    go_wp2
    go_ret
    exact ⟨rfl, (Fr.refl _ _).alloc _⟩
  · have e1 : (q == 0) = false := by simp [h1]
    by_cases h2 : q = p
    · rw [show opn ⟨a, b, q⟩ p = true by simp [opn, h2]]
      have e2 : (q == p) = true := by simp [h2]
      clear h1 h2
      go_enter Try.func32, Try.ntmps32
      go_wp2
      go_ret
      exact ⟨rfl, (Fr.refl _ _).alloc _⟩
    · rw [show opn ⟨a, b, q⟩ p = false by simp [opn, h1, h2]]
      have e2 : (q == p) = false := by simp [h2]
      clear h1 h2
      go_enter Try.func32, Try.ntmps32
      go_wp2
      go_ret
      exact ⟨rfl, (Fr.refl _ _).alloc _⟩

theorem lit_rd (w : World) (cs : List Value) (t : TypeId) : Rd (w.alloc (.cells cs.toArray t)) (some ⟨w.heap.size, 0, none⟩) cs := fun _ =>
  ⟨w.heap.size, 0, rfl, by simp, fun j u hu => by
    rw [World.cell?_alloc_at _ _ _ _ rfl, Nat.zero_add]
    simpa using hu⟩

/-- the ways of a kind, as they lie -/
def SomeWays (P : Nat → Nat → Prop) (w : World) (l : List Wy) (e : Ending) (w' : World) : Prop := ∃ A c, e = .returned (.slice A l.length c) ∧ Rd w' A (cellsW l) ∧ P l.length c ∧ Fr (fun _ => False) w w'
theorem ways_any (k : Int) (w : World) : Calls Try.prog 30 #[.int .i64 k] w (SomeWays (· ≤ ·) w (waysM k)) := by
  rcases kind_cases k with rfl | rfl | rfl | hk
  · go_enter Try.func30, Try.ntmps30
    go_wp2
    go_ret
    exact ⟨_, _, rfl, lit_rd _ _ _, Nat.le_refl _, (Fr.refl _ _).alloc _⟩
  · go_enter Try.func30, Try.ntmps30
    go_wp2
    go_ret
    exact ⟨_, _, rfl, lit_rd _ _ _, Nat.le_refl _, (Fr.refl _ _).alloc _⟩
  · go_enter Try.func30, Try.ntmps30
    go_wp2
    go_ret
    exact ⟨_, _, rfl, lit_rd _ _ _, Nat.le_refl _, (Fr.refl _ _).alloc _⟩
  · rw [ways_none hk]
    have e0 : (k == 0) = false := by simp [hk]
    have e1 : (k == 1) = false := by simp [hk]
    have e2 : (k == 2) = false := by simp [hk]
    clear hk
    go_enter Try.func30, Try.ntmps30
    go_wp2
    go_ret
    exact ⟨_, _, rfl, fun h => by simp [cellsW] at h, Nat.le_refl _, Fr.refl _ _⟩
end Go.Proofs.Ytgommmaipifpaaa

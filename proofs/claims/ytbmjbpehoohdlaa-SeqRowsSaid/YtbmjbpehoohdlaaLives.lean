/- The contract of lives: the fixed example that each law begins with. -/
import Derived.Test.YtbmjbpehoohdlaaLost
namespace Go.Proofs.Ytbmjbpehoohdlaa
open Go.RowKit

theorem ints_rd (w : World) (l : List Int) : Rd (w.alloc (.cells (l.map (Value.int .i64)).toArray 3)) (some ⟨w.heap.size, 0, none⟩) (l.map (Value.int .i64)) := fun _ =>
  ⟨w.heap.size, 0, rfl, by simp, fun j u hu => by
    rw [World.cell?_alloc_at _ _ _ _ rfl, Nat.zero_add]
    simpa using hu⟩

set_option maxHeartbeats 800000 in
theorem lives_any (w : World) : Calls Try.prog 9 #[] w fun e w' => e = .returned (.bool true) ∧ Fr (fun _ => False) w w' := by
  have K1 := of_any (-1) w
  have K2 := next_any 65535 w
  have K3 := gap_any 0 65535 w
  have K4 := newer_any 65535 0 w
  have K5 := lost_any (c := 5) (ints_rd w [5, 6, 9, 7, 10]) (by simp) (by simp)
  rw [show ofZ (-1) = 65535 from by decide] at K1
  rw [show ofZ (65535 + 1) = 0 from by decide] at K2
  rw [show gapZ 0 65535 = -1 from by decide] at K3
  rw [show decide (0 < gapZ 65535 0) = true from by decide] at K4
  rw [show lostL [5, 6, 9, 7, 10] = 2 from by decide] at K5
  go_enter Try.func9, Try.ntmps9
  go_wp2_with fail
  refine K1.mono ?_
  clear K1
  rintro e w1 ⟨rfl, rfl⟩
  go_wp2_with fail
  refine K2.mono ?_
  clear K2
  rintro e w1 ⟨rfl, rfl⟩
  go_wp2_with fail
  refine K3.mono ?_
  clear K3
  rintro e w1 ⟨rfl, rfl⟩
  go_wp2_with fail
  refine K4.mono ?_
  clear K4
  rintro e w1 ⟨rfl, rfl⟩
  go_wp2_with fail
  refine K5.mono ?_
  clear K5
  rintro e w1 ⟨rfl, n, rfl⟩
  go_wp2
  go_ret
  exact ⟨rfl, ((Fr.refl (fun _ => False) w1).alloc _).drewN n⟩
end Go.Proofs.Ytbmjbpehoohdlaa

/- The contract of lives: the fixed example that each law begins with. -/
import Derived.Test.YtgnbaknmibncmaaQue
namespace Go.Proofs.Ytgnbaknmibncmaa
open Go.RowKit

theorem lit_rd (w : World) (cs : List Value) (t : TypeId) : Rd (w.alloc (.cells cs.toArray t)) (some ⟨w.heap.size, 0, none⟩) cs := fun _ =>
  ⟨w.heap.size, 0, rfl, by simp, fun j u hu => by
    rw [World.cell?_alloc_at _ _ _ _ rfl, Nat.zero_add]
    simpa using hu⟩

set_option maxHeartbeats 800000 in
theorem lives_any (w : World) : Calls Try.prog 7 #[] w fun e w' => e = .returned (.bool true) ∧ Fr (fun _ => False) w w' := by
  go_enter Try.func7, Try.ntmps7
  go_wp2_with fail
  refine (makeI 2 w (by omega) (by omega)).mono ?_
  rintro e w1 ⟨rfl, q0, f0, z0⟩
  rw [show roomN 2 = 2 by decide] at q0
  have K := putI (f := 2) (d := 1) (c2 := 3) (que_none q0 ((Fr.refl _ w1).alloc (.cells #[.int .i64 1, .int .i64 2, .int .i64 3] 3))) (lit_rd w1 [.int .i64 1, .int .i64 2, .int .i64 3] 3) (ys := [.int .i64 1, .int .i64 2]) (zs := [.int .i64 3]) rfl (by simp [Value.oneCell']) (by omega) (by omega) (.inr ⟨by omega, rfl⟩)
  rw [show wrap64 (0 + ((1 : Nat) : Int)) = 1 from by rw [IntWalk.wrap64_in _ ⟨by omega, by omega⟩]; rfl, show 2 + 1 = 3 from rfl] at K
  go_wp2_with fail
  ((with_reducible refine K.mono ?_); skip)
  clear K q0
  rintro e w2 ⟨rfl, A, c, q1, f1, a1⟩
  have f2 : Fr (fun j => w.heap.size ≤ j) w w2 := ((f0.mono fun _ _ h => h.elim).alloc _).trans f1 fun j hj e => by
    rcases e with e | e
    · omega
    · cases e
  have hA : Hid (∀ j, blk A = some j → w.heap.size ≤ j) := fun j hj => by
    rcases a1 with h | h
    · rw [h] at hj
      cases hj
    · have := h j hj
      simp at this
      omega
  clear f1 f0 a1
  have K := takeI q1
  go_wp2_with fail
  refine K.mono ?_
  clear K q1
  rintro e w3 ⟨rfl, q2, f3⟩
  go_wp2_with (first | (go_at_call 16; refine (lenI q2).mono ?_; rintro e w' ⟨rfl, rfl⟩) | (go_at_call 17; refine (capI q2).mono ?_; rintro e w' ⟨rfl, rfl⟩) | (go_at_call 18; refine (lostI q2).mono ?_; rintro e w' ⟨rfl, rfl⟩))
  go_ret
  refine ⟨rfl, Fr.ofBelow (f2.trans f3 fun j _ hj => ?_).toBelow⟩
  rcases hj with e | e
  · omega
  · exact hA.out j e
end Go.Proofs.Ytgnbaknmibncmaa

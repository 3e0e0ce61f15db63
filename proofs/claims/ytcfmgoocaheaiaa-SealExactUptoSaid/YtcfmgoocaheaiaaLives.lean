/- The contract of lives: the fixed example that each law begins with. -/
import Derived.Test.YtcfmgoocaheaiaaSeal
namespace Go.Proofs.Ytcfmgoocaheaiaa
open Go.RowKit Crc

theorem lits_rd (w : World) (l : List ByteArray) : Rd (w.alloc (.cells (l.map Value.string).toArray 9)) (some ⟨w.heap.size, 0, none⟩) (l.map Value.string) := fun _ =>
  ⟨w.heap.size, 0, rfl, by simp, fun j u hu => by
    rw [World.cell?_alloc_at _ _ _ _ rfl, Nat.zero_add]
    simpa using hu⟩
theorem lives_sum : ((sum (jn [⟨#[49, 50, 51, 52]⟩, ⟨#[53, 54, 55, 56, 57]⟩])).toNat : Int) = 58124007 := by decide +kernel

set_option maxHeartbeats 800000 in
theorem lives_any (w : World) : Calls Try.prog 10 #[] w fun e w' => e = .returned (.bool true) ∧ Fr (fun _ => False) w w' := by
  have hj : jn [⟨#[97]⟩, ⟨#[98]⟩] = [97, 98] := rfl
  have K1 := seal_any (c := 2) (lits_rd w [⟨#[97]⟩, ⟨#[98]⟩]) (by simp) (by simp) (by rw [hj]; decide)
  rw [hj, show frameL [97, 98] = (frame [97, 98], 0) from rfl] at K1
  have hz : (⟨(frame [97, 98]).toArray⟩ : ByteArray).size = 8 := by rw [size_of, bytesOf_mk, frame_length]; rfl
  have K2 := open_any ⟨(frame [97, 98]).toArray⟩
  rw [bytesOf_mk, open_frame [97, 98] (by decide)] at K2
  have K3 := fun w => sum_any (c := 2) (lits_rd w [⟨#[49, 50, 51, 52]⟩, ⟨#[53, 54, 55, 56, 57]⟩]) (by simp) (by intro x hx; simp at hx; rcases hx with rfl | rfl <;> decide)
  rw [lives_sum] at K3
  generalize (⟨(frame [97, 98]).toArray⟩ : ByteArray) = F at *
  clear hj
  go_enter Try.func10, Try.ntmps10
  go_wp2_with (first | (go_at_call 11; refine K1.mono ?_; rintro e w1 ⟨rfl, hf1⟩) | (go_at_call 15; refine (K2 _).mono ?_; rintro e w2 ⟨rfl, hf2⟩) | (go_at_call 13; refine (K3 _).mono ?_; rintro e w3 ⟨rfl, rfl⟩))
  go_ret
  exact ⟨rfl, (((((Fr.refl _ w).alloc _).trans hf1 (fun _ _ h => h)).trans hf2 (fun _ _ h => h)).alloc _)⟩
end Go.Proofs.Ytcfmgoocaheaiaa

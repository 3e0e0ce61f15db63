/- The walk of SealBack: a body comes back from its frame, and no bytes are taken that no body's frame are. -/
import Derived.Test.YtcfmgoocaheaiaaLives
namespace Go.Proofs.Ytcfmgoocaheaiaa
open Go.RowKit Crc

set_option maxRecDepth 100000 in
set_option maxHeartbeats 800000 in
theorem back_walk (body text : ByteArray) (hb : body.size ≤ 140737488355328) (w : World) :
    Calls Try.prog 4 #[.string body, .string text] w fun e w' => e = .returned (.bool true) ∧ Below w.heap.size w w' := by
  have KL := lives_any w
  have K1 := seal_one body (by omega)
  by_cases hl : 1024 < body.size
  · rw [show frameL (bytesOf body) = ([], 2) from by unfold frameL; rw [if_pos (by rw [bytesOf_length]; exact hl)]] at K1
    go_enter Try.func4, Try.ntmps4
    go_wp2_with (first | (go_at_call 10; refine KL.mono ?_; clear KL; rintro e w1 ⟨rfl, hf1⟩) | (go_at_call 11; refine (K1 _).mono ?_; clear K1; rintro e w2 ⟨rfl, hf2⟩))
    go_ret
    exact ⟨rfl, (hf1.trans hf2 (fun _ _ h => h)).toBelow0⟩
  · rw [show frameL (bytesOf body) = (frame (bytesOf body), 0) from by unfold frameL; rw [if_neg (by rw [bytesOf_length]; exact hl)]] at K1
    have hz : (⟨(frame (bytesOf body)).toArray⟩ : ByteArray).size = body.size + 6 := by rw [size_of, bytesOf_mk (frame (bytesOf body)), frame_length, bytesOf_length]
    have hz2 : (((⟨(frame (bytesOf body)).toArray⟩ : ByteArray).size : Int) != (body.size : Int) + 6) = false := by rw [hz]; simp
    clear hz
    have K2 := open_any ⟨(frame (bytesOf body)).toArray⟩
    rw [bytesOf_mk (frame (bytesOf body)), open_frame (bytesOf body) (by rw [bytesOf_length]; omega)] at K2
    simp only at K2
    rw [mk_bytesOf body] at K2
    have K3 := open_any text
    simp only at K1
    generalize (⟨(frame (bytesOf body)).toArray⟩ : ByteArray) = F at *
    have hbad := fun b e => open_bad (t := bytesOf text) (b := b) (e := e)
    have hok := fun b => open_ok (t := bytesOf text) (b := b)
    generalize openL (bytesOf text) = o at *
    obtain ⟨x, e⟩ := o
    simp only at K3
    by_cases he : e = 0
    · subst he
      obtain ⟨h1, h2⟩ := hok x rfl
      have K4 := seal_one ⟨x.toArray⟩ (by rw [size_of, bytesOf_mk x]; omega)
      rw [bytesOf_mk x, show frameL x = (frame x, 0) from by unfold frameL; rw [if_neg (by omega)], ← h1] at K4
      simp only at K4
      rw [mk_bytesOf text] at K4
      clear hok hbad h1
      go_enter Try.func4, Try.ntmps4
      go_wp2_with (go_at_call 10; refine KL.mono ?_; clear KL; rintro e w1 ⟨rfl, hf1⟩)
      go_wp2_with (go_at_call 11; refine (K1 w1).mono ?_; clear K1; rintro e w2 ⟨rfl, hf2⟩)
      go_wp2_with (go_at_call 15; refine (K2 w2).mono ?_; clear K2; rintro e w3 ⟨rfl, hf3⟩; have q1 : (body.toList == body.toList) = true := beq_self_eq_true _)
      go_wp2_with (go_at_call 15; refine (K3 w3).mono ?_; clear K3; rintro e w4 ⟨rfl, hf4⟩)
      go_wp2_with (go_at_call 11; refine (K4 w4).mono ?_; clear K4; rintro e w5 ⟨rfl, hf5⟩; have q2 : (text.toList == text.toList) = true := beq_self_eq_true _)
      go_ret
      exact ⟨rfl, ((((hf1.trans hf2 (fun _ _ h => h)).trans hf3 (fun _ _ h => h)).trans hf4 (fun _ _ h => h)).trans hf5 (fun _ _ h => h)).toBelow0⟩
    · have hx : x = [] := hbad x e rfl he
      subst hx
      have hn : (e != 0) = true := by simpa using he
      clear hok hbad he
      go_enter Try.func4, Try.ntmps4
      go_wp2_with (go_at_call 10; refine KL.mono ?_; clear KL; rintro e w1 ⟨rfl, hf1⟩)
      go_wp2_with (go_at_call 11; refine (K1 w1).mono ?_; clear K1; rintro e w2 ⟨rfl, hf2⟩)
      go_wp2_with (go_at_call 15; refine (K2 w2).mono ?_; clear K2; rintro e w3 ⟨rfl, hf3⟩; have q1 : (body.toList == body.toList) = true := beq_self_eq_true _)
      go_wp2_with (go_at_call 15; refine (K3 w3).mono ?_; clear K3; rintro e w4 ⟨rfl, hf4⟩)
      go_ret
      exact ⟨rfl, (((hf1.trans hf2 (fun _ _ h => h)).trans hf3 (fun _ _ h => h)).trans hf4 (fun _ _ h => h)).toBelow0⟩
end Go.Proofs.Ytcfmgoocaheaiaa

/- What a writer's move leaves. -/
import Derived.Test.YtmohefkingnknaaPtext
namespace Go.Proofs.Ytmohefkingnknaa.Te
open Go.RowKit Go.Proofs.Ytmohefkingnknaa.Pa

theorem mv_fr {w0 w w' : World} {b : Nat} {F F' : Option Nat} (f : Fr (fun _ => False) w0 w) (m : Mv w w' b F F') (hb : w0.heap.size ≤ b) (hF : ∀ k, F = some k → w0.heap.size ≤ k) :
    Fr (fun _ => False) w0 w' ∧ ∀ k, F' = some k → w0.heap.size ≤ k := by
  refine ⟨f.trans m.1 fun k hk h => ?_, fun k hk => ?_⟩
  · rcases h with h | h
    · omega
    · have := hF k h
      omega
  · rcases m.2 with e | ⟨g, e, hg⟩
    · exact hF k (e ▸ hk)
    · rw [e] at hk
      injection hk with hk
      have := f.size
      omega
theorem mv_is {w w' : World} {b j : Nat} {F F' : Option Nat} {t : TypeId} {cs : Array Value} (h : Is w j t cs) (m : Mv w w' b F F') (hb : j ≠ b) (hF : F ≠ some j) : Is w' j t cs :=
  h.fr m.1 fun e => by
    rcases e with e | e
    · exact hb e
    · exact hF e
theorem blk_ne {g b : Nat} (h : g ≠ b) : blk (some ⟨g, 0, none⟩) ≠ some b := fun e => h (by injection e)
/-- Byte, at a list that may be empty, and lie anywhere then -/
theorem byte_all {w : World} {b : Nat} {F : Option Nat} {s : Pk.S} (h : Wr w b F s) (A : Option Addr) (c : Nat) (l : List Int) (hl : Rd w A (l.map (Value.int .i64))) (hA : 0 < l.length → blk A ≠ some b) (hAF : 0 < l.length → ∀ k, F = some k → blk A ≠ some k)
    (hlen : l.length ≤ 140737488355328) (hbd : s.L ≤ 140737488355328 ∨ s.bs.length + 1 * l.length ≤ 140737488355328) :
    Calls Try.prog 32 #[.pointer (some ⟨b, 0, none⟩), .slice A l.length c] w fun e w' => e = .returned (.tuple #[]) ∧ ∃ F', Wr w' b F' (s.nums 1 l) ∧ Mv w w' b F F' := by
  rcases Nat.eq_zero_or_pos l.length with h0 | h0
  · obtain rfl : l = [] := List.eq_nil_of_length_eq_zero h0
    have K : Calls Try.prog 62 #[.pointer (some ⟨b, 0, none⟩), .int .i64 1, .slice A 0 c] w fun e w' => e = .returned (.tuple #[]) ∧ ∃ F', Wr w' b F' (s.nums 1 []) ∧ Mv w w' b F F' := by
      clear hl hA hAF hlen hbd h0
      go_enter Try.func62, Try.ntmps62
      go_wp2
      refine wp_loop_rounds 1 ?_
      rw [rounds_succ]
      go_wp2
      go_end0
      exact ⟨rfl, F, h, Mv.refl _ _ _⟩
    show Calls Try.prog 32 #[.pointer (some ⟨b, 0, none⟩), .slice A 0 c] w _
    clear hl hA hAF hbd h0 hlen
    go_enter Try.func32, Try.ntmps32
    go_wp2_with (go_at_call 62; refine K.mono ?_; rintro e w1 ⟨rfl, F', hw1, hm1⟩)
    go_end0
    exact ⟨rfl, F', hw1, hm1⟩
  · exact byte_any h A c l hl (hA h0) (hAF h0) hlen hbd
end Go.Proofs.Ytmohefkingnknaa.Te

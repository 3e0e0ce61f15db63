/- The contracts of Text, Byte, Word and Long: lists of texts and of numbers. -/
import Derived.Test.YtmohefkingnknaaPnum
namespace Go.Proofs.Ytmohefkingnknaa.Pa
open Go.RowKit

theorem byte_any {w : World} {b : Nat} {F : Option Nat} {s : Pk.S} (h : Wr w b F s) (A : Option Addr) (c : Nat) (l : List Int) (hl : Rd w A (l.map (Value.int .i64))) (hA : blk A ≠ some b) (hAF : ∀ k, F = some k → blk A ≠ some k)
    (hlen : l.length ≤ 140737488355328) (hbd : s.L ≤ 140737488355328 ∨ s.bs.length + 1 * l.length ≤ 140737488355328) :
    Calls Try.prog 32 #[.pointer (some ⟨b, 0, none⟩), .slice A l.length c] w fun e w' => e = .returned (.tuple #[]) ∧ ∃ F', Wr w' b F' (s.nums 1 l) ∧ Mv w w' b F F' := by
  have K := numbers_any h (.inl rfl) A c l hl hA hAF hlen hbd
  clear hl hA hAF hbd
  go_enter Try.func32, Try.ntmps32
  go_wp2_with (go_at_call 62; refine K.mono ?_; rintro e w1 ⟨rfl, F', hw1, hm1⟩)
  go_end0
  exact ⟨rfl, F', hw1, hm1⟩
theorem long_any {w : World} {b : Nat} {F : Option Nat} {s : Pk.S} (h : Wr w b F s) (A : Option Addr) (c : Nat) (l : List Int) (hl : Rd w A (l.map (Value.int .i64))) (hA : blk A ≠ some b) (hAF : ∀ k, F = some k → blk A ≠ some k)
    (hlen : l.length ≤ 140737488355328) (hbd : s.L ≤ 140737488355328 ∨ s.bs.length + 4 * l.length ≤ 140737488355328) :
    Calls Try.prog 33 #[.pointer (some ⟨b, 0, none⟩), .slice A l.length c] w fun e w' => e = .returned (.tuple #[]) ∧ ∃ F', Wr w' b F' (s.nums 4 l) ∧ Mv w w' b F F' := by
  have K := numbers_any h (.inr (.inr rfl)) A c l hl hA hAF hlen hbd
  clear hl hA hAF hbd
  go_enter Try.func33, Try.ntmps33
  go_wp2_with (go_at_call 62; refine K.mono ?_; rintro e w1 ⟨rfl, F', hw1, hm1⟩)
  go_end0
  exact ⟨rfl, F', hw1, hm1⟩
end Go.Proofs.Ytmohefkingnknaa.Pa

/- The contracts of Text, Byte, Word and Long: lists of texts and of numbers. -/
import Derived.Test.YtdoljggaoidljaaGreatPnum
namespace Go.Proofs.YtdoljggaoidljaaGreat.Pa
open Go.RowKit

/-- the bytes of a text -/
def bytesOf (s : ByteArray) : List UInt8 := s.data.toList
theorem bytesOf_length (s : ByteArray) : (bytesOf s).length = s.size := by unfold bytesOf; rw [Array.length_toList]; rfl

theorem byte_any {w : World} {b : Nat} {F : Option Nat} {s : Pk.S} (h : Wr w b F s) (A : Option Addr) (c : Nat) (l : List Int) (hl : Rd w A (l.map (Value.int .i64))) (hA : blk A ≠ some b) (hAF : ∀ k, F = some k → blk A ≠ some k)
    (hlen : l.length ≤ 140737488355328) (hbd : s.L ≤ 140737488355328 ∨ s.bs.length + 1 * l.length ≤ 140737488355328) :
    Calls Tryz.prog 51 #[.pointer (some ⟨b, 0, none⟩), .slice A l.length c] w fun e w' => e = .returned (.tuple #[]) ∧ ∃ F', Wr w' b F' (s.nums 1 l) ∧ Mv w w' b F F' := by
  have K := numbers_any h (.inl rfl) A c l hl hA hAF hlen hbd
  clear hl hA hAF hbd
  go_enter Tryz.func51, Tryz.ntmps51
  go_wp2_with (go_at_call 72; refine K.mono ?_; rintro e w1 ⟨rfl, F', hw1, hm1⟩)
  go_end0
  exact ⟨rfl, F', hw1, hm1⟩
theorem long_any {w : World} {b : Nat} {F : Option Nat} {s : Pk.S} (h : Wr w b F s) (A : Option Addr) (c : Nat) (l : List Int) (hl : Rd w A (l.map (Value.int .i64))) (hA : blk A ≠ some b) (hAF : ∀ k, F = some k → blk A ≠ some k)
    (hlen : l.length ≤ 140737488355328) (hbd : s.L ≤ 140737488355328 ∨ s.bs.length + 4 * l.length ≤ 140737488355328) :
    Calls Tryz.prog 78 #[.pointer (some ⟨b, 0, none⟩), .slice A l.length c] w fun e w' => e = .returned (.tuple #[]) ∧ ∃ F', Wr w' b F' (s.nums 4 l) ∧ Mv w w' b F F' := by
  have K := numbers_any h (.inr (.inr rfl)) A c l hl hA hAF hlen hbd
  clear hl hA hAF hbd
  go_enter Tryz.func78, Tryz.ntmps78
  go_wp2_with (go_at_call 72; refine K.mono ?_; rintro e w1 ⟨rfl, F', hw1, hm1⟩)
  go_end0
  exact ⟨rfl, F', hw1, hm1⟩
end Go.Proofs.YtdoljggaoidljaaGreat.Pa

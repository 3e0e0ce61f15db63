/- The walk of SealCut: no beginning of a frame is one, but the whole; with anything behind it it isn't alone, but still found where it begins. -/
import Derived.Test.YtcencpkoimahbaaSseal
namespace Go.Proofs.Ytcencpkoimahbaa.Se
open Go.RowKit Crc

theorem piece_head (s : ByteArray) (a : Nat) (h : a ≤ s.size) (W : World) : (Instr.slice 9 (.string s) none (some (.int .i64 (a : Int))) none).run Try.prog W = .ok (.string (s.extract 0 a)) W := by
  have k := run_slice_string_h (P := Try.prog) (w := W) 9 s Try.underlying9 .i64 (a : Int) (by omega) (by omega)
  rw [k, Int.toNat_natCast]
theorem umod (a : Int) (m : Nat) (h0 : 0 < m) (h : m ≤ 4611686018427387904) : ∃ n : Nat, wrap64 ((IntKind.u64.wrap a).tmod (m : Int)) = n ∧ n < m := by
  have hw : 0 ≤ IntKind.u64.wrap a := by rw [IntKind.wrap_u64]; omega
  rw [Int.tmod_eq_emod_of_nonneg hw]
  have h1 := Int.emod_nonneg (IntKind.u64.wrap a) (b := (m : Int)) (by omega)
  have h2 := Int.emod_lt_of_pos (IntKind.u64.wrap a) (b := (m : Int)) (by omega)
  generalize IntKind.u64.wrap a % (m : Int) = x at *
  rw [IntWalk.wrap64_in _ ⟨by omega, by omega⟩]
  exact ⟨x.toNat, by omega, by omega⟩
theorem frameL_long {x : ByteArray} (h : 1024 < x.size) : frameL (bytesOf x) = ([], 2) := by unfold frameL; rw [if_pos (by rw [bytesOf_length]; exact h)]
theorem frameL_ok {x : ByteArray} (h : ¬ 1024 < x.size) : frameL (bytesOf x) = (frame (bytesOf x), 0) := by unfold frameL; rw [if_neg (by rw [bytesOf_length]; exact h)]
theorem frame_size (x : ByteArray) : (⟨(frame (bytesOf x)).toArray⟩ : ByteArray).size = x.size + 6 := by rw [size_of, bytesOf_mk (frame (bytesOf x)), frame_length, bytesOf_length]

end Go.Proofs.Ytcencpkoimahbaa.Se

/- The checksum's step as Go's integers have it: in an int, and in a uint32. -/
import Derived.Test.YtdoljggaoidljaaGreatCrc
import Derived.Laws.BitsLemmas
import Derived.Laws.BitsAllLaws
namespace Go.Proofs.YtdoljggaoidljaaGreat.Crc

theorem i64_xor (a b : Nat) (ha : a < 4611686018427387904) (hb : b < 4611686018427387904) : Go.bits .xor .i64 (a : Int) (b : Int) = ((a ^^^ b : Nat) : Int) := by
  have hx : a ^^^ b < 2 ^ 62 := Nat.xor_lt_two_pow (by omega) (by omega)
  show IntKind.i64.wrap ((BitVec.ofInt 64 (a : Int) ^^^ BitVec.ofInt 64 (b : Int)).toNat : Int) = _
  rw [BitVec.toNat_xor, BitVec.ofInt_natCast, BitVec.ofInt_natCast, BitVec.toNat_ofNat, BitVec.toNat_ofNat, Nat.mod_eq_of_lt (by omega), Nat.mod_eq_of_lt (by omega), IntKind.wrap_i64]
  omega
theorem msb_iff (v : BitVec 32) : v.msb = decide (4294967296 ≤ v.toNat * 2) := by
  rw [BitVec.msb_eq_decide]
  congr 1
  apply propext
  show 2 ^ 31 ≤ v.toNat ↔ _
  omega
theorem bit_toNat (v : BitVec 32) : (bit v).toNat = if 4294967296 ≤ v.toNat * 2 then (v.toNat * 2 - 4294967296) ^^^ 79764919 else v.toNat * 2 := by
  have hv := v.isLt
  unfold bit
  rw [msb_iff]
  by_cases h : 4294967296 ≤ v.toNat * 2
  · simp only [h, decide_true, if_true]
    rw [BitVec.toNat_xor, BitVec.toNat_shiftLeft, Nat.shiftLeft_eq]
    have e : v.toNat * 2 ^ 1 % 2 ^ 32 = v.toNat * 2 - 4294967296 := by omega
    rw [e]
    rfl
  · simp only [h, decide_false, if_false, Bool.false_eq_true]
    rw [BitVec.toNat_xor, BitVec.toNat_shiftLeft, Nat.shiftLeft_eq]
    have e : v.toNat * 2 ^ 1 % 2 ^ 32 = v.toNat * 2 := by omega
    rw [e]
    simp
theorem top_toNat (b : UInt8) : (top b).toNat = b.toNat * 16777216 := by
  have h := UInt8.toNat_lt b
  unfold top
  rw [BitVec.toNat_ofNat, Nat.mod_eq_of_lt (by omega)]
end Go.Proofs.YtdoljggaoidljaaGreat.Crc

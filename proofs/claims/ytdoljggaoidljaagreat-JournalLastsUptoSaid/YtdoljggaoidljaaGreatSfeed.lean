/- The contracts of the checksum's own steps in the program: feed, Sum; number and value. -/
import Derived.Test.YtdoljggaoidljaaGreatBase
import Derived.Test.YtdoljggaoidljaaGreatFrame
import Derived.Test.YtdoljggaoidljaaGreatCrcGo
namespace Go.Proofs.YtdoljggaoidljaaGreat.Se
open Go.RowKit Crc

theorem u32_xor (a b : BitVec 32) : Go.bits .xor .u32 (a.toNat : Int) (b.toNat : Int) = ((a ^^^ b).toNat : Int) := by
  have ha := a.isLt
  have hb := b.isLt
  have hx : a.toNat ^^^ b.toNat < 2 ^ 32 := by rw [← BitVec.toNat_xor]; exact (a ^^^ b).isLt
  show IntKind.u32.wrap ((BitVec.ofInt 32 (a.toNat : Int) ^^^ BitVec.ofInt 32 (b.toNat : Int)).toNat : Int) = _
  rw [BitVec.toNat_xor, BitVec.toNat_xor, BitVec.ofInt_natCast, BitVec.ofInt_natCast, BitVec.toNat_ofNat, BitVec.toNat_ofNat, Nat.mod_eq_of_lt (by omega), Nat.mod_eq_of_lt (by omega), IntKind.wrap_u32]
  omega
theorem u32_top (a : BitVec 32) : (Go.bits .and .u32 (a.toNat : Int) 2147483648 != 0) = a.msb := by
  have e : Go.bits .and .u32 (a.toNat : Int) 2147483648 = ((a &&& 0x80000000#32).toNat : Int) := by
    have ha := a.isLt
    have hx : a.toNat &&& 2147483648 < 2 ^ 32 := by
      have := (a &&& 0x80000000#32).isLt
      rw [BitVec.toNat_and] at this
      exact this
    show IntKind.u32.wrap ((BitVec.ofInt 32 (a.toNat : Int) &&& BitVec.ofInt 32 ((2147483648 : Nat) : Int)).toNat : Int) = _
    rw [BitVec.toNat_and, BitVec.toNat_and, BitVec.ofInt_natCast, BitVec.ofInt_natCast, BitVec.toNat_ofNat, BitVec.toNat_ofNat, Nat.mod_eq_of_lt (by omega), Nat.mod_eq_of_lt (by omega), IntKind.wrap_u32]
    show ((a.toNat &&& 2147483648 : Nat) : Int) % 4294967296 = ((a.toNat &&& 2147483648 : Nat) : Int)
    omega
  rw [e]
  have h : (a &&& 0x80000000#32) = if a.msb then 0x80000000#32 else 0#32 := by
    apply BitVec.eq_of_getLsbD_eq
    intro i hi
    rw [BitVec.getLsbD_and]
    have k : (0x80000000#32).getLsbD i = decide (i = 31) := by
      have : ∀ i : Fin 32, (0x80000000#32).getLsbD i.val = decide (i.val = 31) := by decide
      exact this ⟨i, hi⟩
    rw [k]
    by_cases h31 : i = 31
    · subst h31
      rw [BitVec.msb_eq_getLsbD_last]
      cases a.getLsbD 31 <;> simp
    · cases a.msb
      · simp [h31]
      · simp only [if_true, k]; simp [h31]
  rw [h]
  cases a.msb <;> simp
theorem bits_succ (j : Nat) (v : BitVec 32) : Crc.bits (j + 1) v = bit (Crc.bits j v) := bits_add j 1 v
theorem bit_one {v : BitVec 32} (h : v.msb = true) : ((bit v).toNat : Int) = Go.bits .xor .u32 ((v <<< 1).toNat : Int) 79764919 := by
  rw [show (79764919 : Int) = ((0x04c11db7#32).toNat : Int) from rfl, u32_xor]
  unfold bit
  rw [h, if_pos rfl]
theorem bit_nought {v : BitVec 32} (h : v.msb = false) : bit v = v <<< 1 := by
  unfold bit
  rw [h, if_neg (by decide), BitVec.xor_zero]
theorem shl_one (v : BitVec 32) : (v.toNat : Int) * (2 : Int) % (4294967296 : Int) = ((v <<< 1).toNat : Int) := by
  rw [BitVec.toNat_shiftLeft, Nat.shiftLeft_eq]
  omega

theorem feed_any (v : BitVec 32) (s : ByteArray) (hs : s.size ≤ 9223372036854775807) (w : World) :
    Calls Tryz.prog 101 #[.int .u32 (v.toNat : Int), .string s] w fun e w' => e = .returned (.int .u32 ((crc v (bytesOf s)).toNat : Int)) ∧ w = w' := by
  go_enter Tryz.func101, Tryz.ntmps101
  go_wp2
  go_loop [0, 9] (fun r i => ∃ k, k ≤ s.size ∧ i = .int .i64 (k : Nat) ∧ r = .int .u32 ((crc v ((bytesOf s).take k)).toNat : Int)) (fun _ i => s.size - (intOf i).toNat)
  case atStart => exact ⟨0, Nat.zero_le _, rfl, rfl⟩
  case round =>
    obtain ⟨k, hk, rfl, rfl⟩ := hrel
    by_cases hlt : k < s.size
    · have hlt' : k < (bytesOf s).length := bytes_at hlt
      have hnext : crc v ((bytesOf s).take (k + 1)) = Crc.bits 8 (crc v ((bytesOf s).take k) ^^^ top s[k]) := by
        rw [List.take_succ_eq_append_getElem hlt', crc_append]
        rfl
      generalize crc v ((bytesOf s).take k) = r at *
      have HN := Lib.hid hnext
      clear hnext
      have hx : Go.bits .xor .u32 (r.toNat : Int) ((s[k].toNat : Int) % 4294967296 * 16777216 % 4294967296) = ((r ^^^ top s[k]).toNat : Int) := by
        rw [← u32_xor, top_toNat]
        have := UInt8.toNat_lt s[k]
        congr 1
        omega
      generalize r ^^^ top s[k] = r0 at *
      have HX := Lib.hid hx
      clear hx
      go_wp2
      go_loop [0, 19] (fun r i => ∃ j, j ≤ 8 ∧ i = .int .i64 (j : Nat) ∧ r = .int .u32 ((Crc.bits j r0).toNat : Int)) (fun _ i => 8 - (intOf i).toNat)
      case atStart => exact ⟨0, by decide, rfl, congrArg (Value.int .u32) HX.out⟩
      case round =>
        obtain ⟨j, hj, rfl, rfl⟩ := hrel
        by_cases hj8 : j < 8
        · have hs := bits_succ j r0
          generalize Crc.bits j r0 = r1 at *
          have ht := u32_top r1
          have h1 := shl_one r1
          cases hm : r1.msb with
          | true =>
            rw [hm] at ht
            have hb := bit_one hm
            rw [← hs, ← h1] at hb
            have HB := Lib.hid hb
            clear hb h1 hs hm
            go_wp2
            go_round
            case rel => exact ⟨j + 1, by omega, by go_num, by rw [HB.out]⟩
            case measure => simp [intOf]; omega
          | false =>
            rw [hm] at ht
            have hb := bit_nought hm
            rw [← hs] at hb
            rw [← hb] at h1
            have HB := Lib.hid h1
            clear hb h1 hs hm
            go_wp2
            go_round
            case rel => exact ⟨j + 1, by omega, by go_num, by rw [← HB.out]⟩
            case measure => simp [intOf]; omega
        · have hj' : j = 8 := by omega
          subst hj'
          rw [← HN.out]
          clear HN HX
          go_wp2
          go_round
          case rel => exact ⟨k + 1, by omega, by go_num, rfl⟩
          case measure => simp [intOf]; omega
    · have hk' : k = s.size := by omega
      rw [List.take_of_length_le (by rw [bytesOf_length]; omega)]
      clear hk'
      go_wp2
      go_ret
      exact ⟨rfl, rfl⟩
end Go.Proofs.YtdoljggaoidljaaGreat.Se

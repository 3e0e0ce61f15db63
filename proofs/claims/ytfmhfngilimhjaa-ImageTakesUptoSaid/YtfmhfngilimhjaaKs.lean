/- Contracts and plain mathematics of earlier stages: Clone, Sfeed, Snum, Ssum, Sopens, Sseal, Scut. -/
import Derived.Shelf.LaysM
import Derived.Shelf.Strconv.Clone
import Derived.Test.YtfmhfngilimhjaaProg
import Derived.Test.YtfmhfngilimhjaaKa
import Derived.Test.YtfmhfngilimhjaaKm
import Derived.Laws.Bits64
import Derived.Laws.BitsAllLaws
namespace Go.Proofs
open Go.Shelf
def Try.laysM316_ren : Go.Shelf.Ren := ⟨fun | 316 => 126 | n => n, fun | 9 => 9 | 3 => 3 | 4 => 4 | 37 => 151 | 0 => 0 | 127 => 203 | 5 => 5 | n => n, fun | n => n⟩
theorem Try.laysM316 : Go.Proofs.LaysM.n316 Try.prog Try.laysM316_ren := {
  mixed := by kernel_rfl
  f316 := Try.func126.trans (congrArg some (by kernel_rfl))
  t0 := Try.underlying0
  a0 := Try.isAgg0
  z0 := Try.sizeOf0
  v0 := Try.zeroValue0
  t3 := Try.underlying3
  a3 := Try.isAgg3
  z3 := Try.sizeOf3
  v3 := Try.zeroValue3
  t4 := Try.underlying4
  a4 := Try.isAgg4
  z4 := Try.sizeOf4
  v4 := Try.zeroValue4
  t9 := Try.underlying9
  a9 := Try.isAgg9
  z9 := Try.sizeOf9
  v9 := Try.zeroValue9
  t37 := Try.underlying151
  a37 := Try.isAgg151
  z37 := Try.sizeOf151
  v37 := Try.zeroValue151
  t127 := Try.underlying203
  a127 := Try.isAgg203
  z127 := Try.sizeOf203
  v127 := Try.zeroValue203
  t5 := Try.underlying5
  a5 := Try.isAgg5
  z5 := Try.sizeOf5
  v5 := Try.zeroValue5
  i0 := by kernel_rfl
  i3 := by kernel_rfl
  i4 := by kernel_rfl
  i5 := by kernel_rfl
  i9 := by kernel_rfl
  i37 := by kernel_rfl
  i127 := by kernel_rfl }
open Go.RowKit in
/-- internal/stringslite.Clone (what strings.Clone calls): "Clone returns a fresh copy of s.": THE SAME BYTES. Of what was there nothing has turned (a new row is laid, and frozen, where s is not empty). (LAID: no walk: one application.) -/
theorem Try.stringslite_Clone (s : ByteArray) (w : World) (hlim : s.size ≤ 281474976710656) :
    Calls Try.prog 126 #[.string s] w fun e w' => e = .returned (.string s) ∧ Below w.heap.size w w' := Any.stringslite_Clone Try.laysM316 s w hlim
end Go.Proofs

namespace Go.Proofs.Ytfmhfngilimhjaa.Se
open Go.RowKit Crc

theorem u32_xor (a b : BitVec 32) : Go.bits .xor .u32 (a.toNat : Int) (b.toNat : Int) = ((a ^^^ b).toNat : Int) := by
  have ha := a.isLt
  have hb := b.isLt
  have hx : a.toNat ^^^ b.toNat < 2 ^ 32 := by rw [← BitVec.toNat_xor]; exact (a ^^^ b).isLt
  show IntKind.u32.wrap ((BitVec.ofInt 32 (a.toNat : Int) ^^^ BitVec.ofInt 32 (b.toNat : Int)).toNat : Int) = _
  rw [BitVec.toNat_xor, BitVec.toNat_xor, BitVec.ofInt_natCast, BitVec.ofInt_natCast, BitVec.toNat_ofNat, BitVec.toNat_ofNat, Nat.mod_eq_of_lt (by omega), Nat.mod_eq_of_lt (by omega), IntKind.wrap_u32]
  omega
theorem u32_top (a : BitVec 32) : (Go.bits .and .u32 (a.toNat : Int) 2147483648 != 0) = a.msb := by
  have e : Go.bits .and .u32 (a.toNat : Int) 2147483648 = ((a &&& 0x80000000#32).toNat : Int) := by
    have ha := a.isLt
    have hx : a.toNat &&& 2147483648 < 2 ^ 32 := by
      have := (a &&& 0x80000000#32).isLt
      rw [BitVec.toNat_and] at this
      exact this
    show IntKind.u32.wrap ((BitVec.ofInt 32 (a.toNat : Int) &&& BitVec.ofInt 32 ((2147483648 : Nat) : Int)).toNat : Int) = _
    rw [BitVec.toNat_and, BitVec.toNat_and, BitVec.ofInt_natCast, BitVec.ofInt_natCast, BitVec.toNat_ofNat, BitVec.toNat_ofNat, Nat.mod_eq_of_lt (by omega), Nat.mod_eq_of_lt (by omega), IntKind.wrap_u32]
    show ((a.toNat &&& 2147483648 : Nat) : Int) % 4294967296 = ((a.toNat &&& 2147483648 : Nat) : Int)
    omega
  rw [e]
  have h : (a &&& 0x80000000#32) = if a.msb then 0x80000000#32 else 0#32 := by
    apply BitVec.eq_of_getLsbD_eq
    intro i hi
    rw [BitVec.getLsbD_and]
    have k : (0x80000000#32).getLsbD i = decide (i = 31) := by
      have : ∀ i : Fin 32, (0x80000000#32).getLsbD i.val = decide (i.val = 31) := by decide
      exact this ⟨i, hi⟩
    rw [k]
    by_cases h31 : i = 31
    · subst h31
      rw [BitVec.msb_eq_getLsbD_last]
      cases a.getLsbD 31 <;> simp
    · cases a.msb
      · simp [h31]
      · simp only [if_true, k]; simp [h31]
  rw [h]
  cases a.msb <;> simp
theorem bits_succ (j : Nat) (v : BitVec 32) : Crc.bits (j + 1) v = bit (Crc.bits j v) := bits_add j 1 v
theorem bit_one {v : BitVec 32} (h : v.msb = true) : ((bit v).toNat : Int) = Go.bits .xor .u32 ((v <<< 1).toNat : Int) 79764919 := by
  rw [show (79764919 : Int) = ((0x04c11db7#32).toNat : Int) from rfl, u32_xor]
  unfold bit
  rw [h, if_pos rfl]
theorem bit_nought {v : BitVec 32} (h : v.msb = false) : bit v = v <<< 1 := by
  unfold bit
  rw [h, if_neg (by decide), BitVec.xor_zero]
theorem shl_one (v : BitVec 32) : (v.toNat : Int) * (2 : Int) % (4294967296 : Int) = ((v <<< 1).toNat : Int) := by
  rw [BitVec.toNat_shiftLeft, Nat.shiftLeft_eq]
  omega

theorem feed_any (v : BitVec 32) (s : ByteArray) (hs : s.size ≤ 9223372036854775807) (w : World) :
    Calls Try.prog 125 #[.int .u32 (v.toNat : Int), .string s] w fun e w' => e = .returned (.int .u32 ((crc v (bytesOf s)).toNat : Int)) ∧ w = w' := by
  go_enter Try.func125, Try.ntmps125
  go_wp2
  go_loop [0, 9] (fun r i => ∃ k, k ≤ s.size ∧ i = .int .i64 (k : Nat) ∧ r = .int .u32 ((crc v ((bytesOf s).take k)).toNat : Int)) (fun _ i => s.size - (intOf i).toNat)
  case atStart => exact ⟨0, Nat.zero_le _, rfl, rfl⟩
  case round =>
    obtain ⟨k, hk, rfl, rfl⟩ := hrel
    by_cases hlt : k < s.size
    · have hlt' : k < (bytesOf s).length := bytes_at hlt
      have hnext : crc v ((bytesOf s).take (k + 1)) = Crc.bits 8 (crc v ((bytesOf s).take k) ^^^ top s[k]) := by
        rw [List.take_succ_eq_append_getElem hlt', crc_append]
        rfl
      generalize crc v ((bytesOf s).take k) = r at *
      have HN := Lib.hid hnext
      clear hnext
      have hx : Go.bits .xor .u32 (r.toNat : Int) ((s[k].toNat : Int) % 4294967296 * 16777216 % 4294967296) = ((r ^^^ top s[k]).toNat : Int) := by
        rw [← u32_xor, top_toNat]
        have := UInt8.toNat_lt s[k]
        congr 1
        omega
      generalize r ^^^ top s[k] = r0 at *
      have HX := Lib.hid hx
      clear hx
      go_wp2
      go_loop [0, 19] (fun r i => ∃ j, j ≤ 8 ∧ i = .int .i64 (j : Nat) ∧ r = .int .u32 ((Crc.bits j r0).toNat : Int)) (fun _ i => 8 - (intOf i).toNat)
      case atStart => exact ⟨0, by decide, rfl, congrArg (Value.int .u32) HX.out⟩
      case round =>
        obtain ⟨j, hj, rfl, rfl⟩ := hrel
        by_cases hj8 : j < 8
        · have hs := bits_succ j r0
          generalize Crc.bits j r0 = r1 at *
          have ht := u32_top r1
          have h1 := shl_one r1
          cases hm : r1.msb with
          | true =>
            rw [hm] at ht
            have hb := bit_one hm
            rw [← hs, ← h1] at hb
            have HB := Lib.hid hb
            clear hb h1 hs hm
            go_wp2
            go_round
            case rel => exact ⟨j + 1, by omega, by go_num, by rw [HB.out]⟩
            case measure => simp [intOf]; omega
          | false =>
            rw [hm] at ht
            have hb := bit_nought hm
            rw [← hs] at hb
            rw [← hb] at h1
            have HB := Lib.hid h1
            clear hb h1 hs hm
            go_wp2
            go_round
            case rel => exact ⟨j + 1, by omega, by go_num, by rw [← HB.out]⟩
            case measure => simp [intOf]; omega
        · have hj' : j = 8 := by omega
          subst hj'
          rw [← HN.out]
          clear HN HX
          go_wp2
          go_round
          case rel => exact ⟨k + 1, by omega, by go_num, rfl⟩
          case measure => simp [intOf]; omega
    · have hk' : k = s.size := by omega
      rw [List.take_of_length_le (by rw [bytesOf_length]; omega)]
      clear hk'
      go_wp2
      go_ret
      exact ⟨rfl, rfl⟩
end Go.Proofs.Ytfmhfngilimhjaa.Se

namespace Go.Proofs.Ytfmhfngilimhjaa.Se
open Go.RowKit Crc

theorem mk2 (w : World) : (Instr.makeSlice 151 (.int .i64 2) (.int .i64 2)).run Try.prog w = .ok (.slice (some ⟨w.heap.size, 0, none⟩) 2 2) (w.alloc (.cells #[.int .u8 0, .int .u8 0] 5)) := by kernel_rfl
theorem mk4 (w : World) : (Instr.makeSlice 151 (.int .i64 4) (.int .i64 4)).run Try.prog w = .ok (.slice (some ⟨w.heap.size, 0, none⟩) 4 4) (w.alloc (.cells #[.int .u8 0, .int .u8 0, .int .u8 0, .int .u8 0] 5)) := by kernel_rfl
/-- a byte of a number, as a cell -/
theorem B_of (n : Nat) (m : Int) (h : m = ((n % 256 : Nat) : Int)) : B (UInt8.ofNat n) = .int .u8 m := by
  unfold B
  rw [h, UInt8.toNat_ofNat']
/-- the text of a row that was just laid -/
theorem text_laid (w : World) (bs : List UInt8) (n : Nat) (hn : bs.length = n) (cs : Array Value) (hcs : cs = (bs.map B).toArray) :
    (convert 151 9 (.slice (some ⟨w.heap.size, 0, none⟩) n n)).run Try.prog (w.alloc (.cells cs 5)) = .ok (.string ⟨bs.toArray⟩) (w.alloc (.cells cs 5)) := by
  subst hn
  subst hcs
  refine run_convert_bytes_back _ _ _ _ ⟨w.heap.size, 0, none⟩ bs.length bs Try.underlying151 Try.underlying5 Try.underlying9 fun j hj => ?_
  have e1 : (⟨w.heap.size, 0, none⟩ : Addr).add j = ⟨w.heap.size, j, none⟩ := by unfold Addr.add; split <;> simp_all
  rw [e1, World.cell?_alloc_at _ _ _ _ rfl]
  simp [B, hj]
theorem hdr_cells (n : Nat) (h : n < 65536) : (#[.int .u8 ((n : Int) / 256), .int .u8 ((n : Int) % 256)] : Array Value) = ((hdr n).map B).toArray := by
  simp only [hdr, List.map]
  rw [B_of (n / 256) ((n : Int) / 256) (by omega), B_of n ((n : Int) % 256) (by omega)]
theorem four_cells (v : BitVec 32) : (#[.int .u8 ((v.toNat : Int) / 16777216), .int .u8 ((v.toNat : Int) / 65536 % 256), .int .u8 ((v.toNat : Int) / 256 % 256), .int .u8 ((v.toNat : Int) % 256)] : Array Value) = ((four v).map B).toArray := by
  have hv := v.isLt
  simp only [four, List.map]
  rw [B_of (v.toNat / 16777216) ((v.toNat : Int) / 16777216) (by omega), B_of (v.toNat / 65536) ((v.toNat : Int) / 65536 % 256) (by omega), B_of (v.toNat / 256) ((v.toNat : Int) / 256 % 256) (by omega), B_of v.toNat ((v.toNat : Int) % 256) (by omega)]
/-- the number that bytes tell, the greatest first -/
def val (l : List UInt8) : Nat := l.foldl (fun n b => n * 256 + b.toNat) 0
theorem val_snoc (l : List UInt8) (b : UInt8) : val (l ++ [b]) = val l * 256 + b.toNat := by simp [val, List.foldl_append]
theorem val_take_bd (l : List UInt8) (k : Nat) (hk : k ≤ l.length) : val (l.take k) < 256 ^ k := by
  induction k with
  | zero => simp [val]
  | succ k ih =>
    have h := ih (by omega)
    have hb : (l[k]'(by omega)).toNat < 256 := UInt8.toNat_lt _
    rw [List.take_succ_eq_append_getElem (by omega), val_snoc, Nat.pow_succ]
    omega
theorem or_join (a : Int) (b : UInt8) (h0 : 0 ≤ a) (h1 : a < 16777216) : Go.bits .or .i64 (a * 256) (b.toNat : Int) = a * 256 + (b.toNat : Int) := by
  have hb : b.toNat < 256 := UInt8.toNat_lt b
  exact bits_join .i64 62 (by decide) (fun n h h' => by rw [IntKind.wrap_i64]; omega) 8 _ _ (by omega) (by omega) (by omega) (by omega) (by omega) (by omega)
theorem value_any (s : ByteArray) (hs : s.size ≤ 4) (w : World) :
    Calls Try.prog 121 #[.string s] w fun e w' => e = .returned (.int .i64 (val (bytesOf s) : Nat)) ∧ w = w' := by
  go_enter Try.func121, Try.ntmps121
  go_wp2
  go_loop [3, 7] (fun v i => ∃ k, k ≤ s.size ∧ i = .int .i64 (k : Nat) ∧ v = .int .i64 (val ((bytesOf s).take k) : Nat)) (fun _ i => s.size - (intOf i).toNat)
  case atStart => exact ⟨0, Nat.zero_le _, rfl, rfl⟩
  case round =>
    obtain ⟨k, hk, rfl, rfl⟩ := hrel
    by_cases hlt : k < s.size
    · have hlt' : k < (bytesOf s).length := bytes_at hlt
      have hvb := val_take_bd (bytesOf s) k (by omega)
      have hv1 : val ((bytesOf s).take k) < 16777216 := by
        have hk3 : k = 0 ∨ k = 1 ∨ k = 2 ∨ k = 3 := by omega
        rcases hk3 with rfl | rfl | rfl | rfl <;> omega
      have hsn : val ((bytesOf s).take (k + 1)) = val ((bytesOf s).take k) * 256 + s[k].toNat := by
        rw [List.take_succ_eq_append_getElem hlt', val_snoc]
        rfl
      have hor := or_join (val ((bytesOf s).take k) : Nat) s[k] (by omega) (by omega)
      have HS := Lib.hid hsn
      have hby := UInt8.toNat_lt s[k]
      have HO := Lib.hid hor
      clear hsn hvb hor
      go_wp2
      go_round
      case rel => exact ⟨k + 1, by omega, by go_num, congrArg (Value.int .i64) (HO.out.trans (by rw [HS.out]; omega))⟩
      case measure => simp [intOf]; omega
    · have hk' : k = s.size := by omega
      rw [List.take_of_length_le (by rw [bytesOf_length]; omega)]
      clear hk'
      go_wp2
      go_ret
      exact ⟨rfl, rfl⟩
theorem val_two (t : List UInt8) (h : 2 ≤ t.length) : val (t.take 2) = told t := by
  match t, h with
  | a :: b :: l, _ => simp [val, told]
theorem val_four (v : BitVec 32) : val (four v) = v.toNat := by
  have hv := v.isLt
  simp only [val, four, List.foldl, UInt8.toNat_ofNat']
  omega
theorem val_four_iff {l : List UInt8} (v : BitVec 32) (hl : l.length = 4) : v.toNat = val l ↔ l = four v := by
  constructor
  · intro h
    match l, hl with
    | [a, b, c, d], _ =>
      have ha := UInt8.toNat_lt a
      have hb := UInt8.toNat_lt b
      have hc := UInt8.toNat_lt c
      have hd := UInt8.toNat_lt d
      simp only [val, List.foldl] at h
      simp only [four, h]
      have e : ∀ (x : UInt8) (n : Nat), n % 256 = x.toNat → x = UInt8.ofNat n := fun x n hn => by
        apply UInt8.toNat_inj.1
        rw [UInt8.toNat_ofNat', hn]
      congr 1
      · exact e _ _ (by omega)
      · congr 1
        · exact e _ _ (by omega)
        · congr 1
          · exact e _ _ (by omega)
          · congr 1
            exact e _ _ (by omega)
  · rintro rfl
    exact (val_four v).symm
end Go.Proofs.Ytfmhfngilimhjaa.Se

namespace Go.Proofs.Ytfmhfngilimhjaa.Se
open Go.RowKit Crc

/-- the bytes of parts, one behind the other -/
def jn (xs : List ByteArray) : List UInt8 := (xs.map bytesOf).flatten
theorem jn_take (xs : List ByteArray) (k : Nat) (h : k < xs.length) : jn (xs.take (k + 1)) = jn (xs.take k) ++ bytesOf xs[k] := by
  unfold jn
  rw [List.take_succ_eq_append_getElem h, List.map_append, List.flatten_append]
  show _ ++ (bytesOf xs[k] ++ []) = _
  rw [List.append_nil]
theorem jn_nil : jn [] = [] := rfl
theorem jn_one (x : ByteArray) : jn [x] = bytesOf x := by simp [jn]

theorem sclone_any (s : ByteArray) (w : World) (hlim : s.size ≤ 281474976710656) :
    Calls Try.prog 123 #[.string s] w fun e w' => e = .returned (.string s) ∧ Fr (fun _ => False) w w' := by
  have K := Try.stringslite_Clone s w hlim
  go_enter Try.func123, Try.ntmps123
  go_wp2_with (go_at_call 126; refine K.mono ?_; rintro e w1 ⟨rfl, hf1⟩)
  go_ret
  exact ⟨rfl, Fr.ofBelow hf1⟩

theorem sum_any {w : World} {A : Option Addr} {c : Nat} {xs : List ByteArray} (h : Rd w A (xs.map Value.string)) (hlen : xs.length ≤ 140737488355328) (hx : ∀ x ∈ xs, x.size ≤ 9223372036854775807) :
    Calls Try.prog 122 #[.slice A xs.length c] w fun e w' => e = .returned (.int .i64 ((sum (jn xs)).toNat : Int)) ∧ w = w' := by
  go_enter Try.func122, Try.ntmps122
  go_wp2
  go_loop [3, 8] (fun r i => ∃ k, k ≤ xs.length ∧ i = .int .i64 (k : Nat) ∧ r = .int .u32 ((sum (jn (xs.take k))).toNat : Int)) (fun _ i => xs.length - (intOf i).toNat)
  case atStart => exact ⟨0, Nat.zero_le _, rfl, rfl⟩
  case round =>
    obtain ⟨k, hk, rfl, rfl⟩ := hrel
    by_cases hlt : k < xs.length
    · obtain ⟨g, o, rfl, hg, hc⟩ := h (by simp; omega)
      have c1 : w.cell? ⟨g, o + k, none⟩ = some (.string xs[k]) := hc k (.string xs[k]) (by rw [List.getElem?_map, List.getElem?_eq_getElem hlt]; rfl)
      have K := feed_any (sum (jn (xs.take k))) xs[k] (hx _ (List.getElem_mem hlt)) w
      have hn : sum (jn (xs.take (k + 1))) = crc (sum (jn (xs.take k))) (bytesOf xs[k]) := by
        rw [jn_take xs k hlt]
        exact crc_append _ _ _
      rw [← hn] at K
      generalize xs[k] = x at *
      generalize sum (jn (xs.take k)) = r at *
      have HN := Lib.hid hn
      clear hn hc h
      go_wp2_with (go_at_call 125; refine K.mono ?_; rintro e w1 ⟨rfl, rfl⟩)
      go_round
      case rel => exact ⟨k + 1, by omega, by go_num, rfl⟩
      case measure => simp [intOf]; omega
    · have hk' : k = xs.length := by omega
      rw [List.take_of_length_le (by omega)]
      have hv := (sum (jn xs)).isLt
      clear hk' h
      go_wp2
      go_ret
      exact ⟨rfl, rfl⟩
theorem sum_one (x : ByteArray) (hx : x.size ≤ 9223372036854775807) (w : World) :
    Calls Try.prog 122 #[.slice (some ⟨w.heap.size, 0, none⟩) 1 1] (w.alloc (.cells #[.string x] 9)) fun e w' => e = .returned (.int .i64 ((sum (bytesOf x)).toNat : Int)) ∧ w.alloc (.cells #[.string x] 9) = w' := by
  have K := sum_any (c := 1) (xs := [x]) (Rd.one w (.string x) 9) (by simp) (by simpa using hx)
  rw [jn_one] at K
  exact K

/-- how many bytes the frame has with which a text begins -/
def meas (l : List UInt8) : Nat × Int := if l.length < 6 then (0, 1) else if 1024 < told l then (0, 2) else if l.length < told l + 6 then (0, 1) else (told l + 6, 0)
theorem measure_any (s : ByteArray) (w : World) :
    Calls Try.prog 116 #[.string s] w fun e w' => e = .returned (.tuple #[.int .i64 ((meas (bytesOf s)).1 : Nat), .int .i64 (meas (bytesOf s)).2]) ∧ w = w' := by
  unfold meas
  rw [bytesOf_length]
  by_cases h6 : s.size < 6
  · rw [if_pos h6]
    go_enter Try.func116, Try.ntmps116
    go_wp2
    go_ret2
    exact ⟨rfl, rfl⟩
  · rw [if_neg h6]
    have hb : bytesOf (s.extract 0 2) = (bytesOf s).take 2 := by rw [bytesOf_extract]; rfl
    have K := value_any (s.extract 0 2) (by rw [ByteArray.size_extract]; omega) w
    rw [hb, val_two _ (by rw [bytesOf_length]; omega)] at K
    have ht : told (bytesOf s) < 65536 := by
      unfold told
      have h1 := UInt8.toNat_lt (bytesOf s)[0]!
      have h2 := UInt8.toNat_lt (bytesOf s)[1]!
      omega
    clear hb
    generalize told (bytesOf s) = n at *
    by_cases h1 : 1024 < n
    · rw [if_pos h1]
      go_enter Try.func116, Try.ntmps116
      go_wp2_with (go_at_call 121; refine K.mono ?_; rintro e w1 ⟨rfl, rfl⟩)
      go_ret2
      exact ⟨rfl, rfl⟩
    · rw [if_neg h1]
      by_cases h2 : s.size < n + 6
      · rw [if_pos h2]
        go_enter Try.func116, Try.ntmps116
        go_wp2_with (go_at_call 121; refine K.mono ?_; rintro e w1 ⟨rfl, rfl⟩)
        go_ret2
        exact ⟨rfl, rfl⟩
      · rw [if_neg h2]
        go_enter Try.func116, Try.ntmps116
        go_wp2_with (go_at_call 121; refine K.mono ?_; rintro e w1 ⟨rfl, rfl⟩)
        go_ret2
        refine ⟨?_, rfl⟩
        rw [show ((n + 6 : Nat) : Int) = 2 + (n : Int) + 4 from by omega]
        rfl

/-- the body of a frame of which only the sum isn't sure -/
def uns (l : List UInt8) : List UInt8 × Int := if l.drop (l.length - 4) = four (sum (l.take (l.length - 4))) then ((l.take (l.length - 4)).drop 2, 0) else ([], 4)
theorem unseal_any (s : ByteArray) (h6 : 6 ≤ s.size) (hlim : s.size ≤ 140737488355328) (w : World) :
    Calls Try.prog 117 #[.string s] w fun e w' => e = .returned (.tuple #[.string ⟨(uns (bytesOf s)).1.toArray⟩, .int .i64 (uns (bytesOf s)).2]) ∧ Fr (fun _ => False) w w' := by
  have hb1 : bytesOf (s.extract 0 (s.size - 4)) = (bytesOf s).take (s.size - 4) := by rw [bytesOf_extract]; rfl
  have hb2 : bytesOf (s.extract (s.size - 4) s.size) = (bytesOf s).drop (s.size - 4) := by rw [bytesOf_extract, size_of, List.take_length]
  have z1 : (s.extract 0 (s.size - 4)).size = s.size - 4 := by rw [ByteArray.size_extract]; omega
  have z2 : (s.extract (s.size - 4) s.size).size = 4 := by rw [ByteArray.size_extract]; omega
  have K1 := sum_one (s.extract 0 (s.size - 4)) (by omega)
  have K2 := value_any (s.extract (s.size - 4) s.size) (by omega)
  rw [hb1] at K1
  rw [hb2] at K2
  have hv := val_four_iff (l := (bytesOf s).drop (s.size - 4)) (sum ((bytesOf s).take (s.size - 4))) (by rw [List.length_drop, bytesOf_length]; omega)
  unfold uns
  rw [bytesOf_length]
  by_cases he : (bytesOf s).drop (s.size - 4) = four (sum ((bytesOf s).take (s.size - 4)))
  · rw [if_pos he]
    have hn : (((sum ((bytesOf s).take (s.size - 4))).toNat : Int) != (val ((bytesOf s).drop (s.size - 4)) : Nat)) = false := by
      rw [hv.2 he]; simp
    have hb3 : bytesOf ((s.extract 0 (s.size - 4)).extract 2 (s.size - 4)) = ((bytesOf s).take (s.size - 4)).drop 2 := by
      rw [bytesOf_extract, hb1, List.take_take, Nat.min_self]
    have z3 : ((s.extract 0 (s.size - 4)).extract 2 (s.size - 4)).size = s.size - 6 := by rw [ByteArray.size_extract, z1]; omega
    have K3 := fun W => sclone_any ((s.extract 0 (s.size - 4)).extract 2 (s.size - 4)) W (by omega)
    rw [← hb3, mk_bytesOf]
    clear he hv hb1 hb2 hb3
    go_enter Try.func117, Try.ntmps117
    go_wp2
    go_quiet (fail)
    have f0 := (Fr.refl (fun _ => False) w).drewN nq
    generalize w.drewN nq = w0 at *
    go_wp2_with (first | (go_at_call 122; refine (K1 w0).mono ?_; rintro e w1 ⟨rfl, rfl⟩) | (go_at_call 121; refine (K2 _).mono ?_; rintro e w1 ⟨rfl, rfl⟩) | (go_at_call 123; refine (K3 _).mono ?_; rintro e w3 ⟨rfl, hf3⟩))
    go_ret2
    exact ⟨rfl, (f0.alloc _).trans hf3 (fun _ _ h => h)⟩
  · rw [if_neg he]
    have hn : (((sum ((bytesOf s).take (s.size - 4))).toNat : Int) != (val ((bytesOf s).drop (s.size - 4)) : Nat)) = true := by
      rw [bne_iff_ne]
      intro h
      exact he (hv.1 (by omega))
    clear he hv hb1 hb2
    go_enter Try.func117, Try.ntmps117
    go_wp2
    go_quiet (fail)
    have f0 := (Fr.refl (fun _ => False) w).drewN nq
    generalize w.drewN nq = w0 at *
    go_wp2_with (first | (go_at_call 122; refine (K1 w0).mono ?_; rintro e w1 ⟨rfl, rfl⟩) | (go_at_call 121; refine (K2 _).mono ?_; rintro e w1 ⟨rfl, rfl⟩))
    go_ret2
    exact ⟨rfl, f0.alloc _⟩
end Go.Proofs.Ytfmhfngilimhjaa.Se

namespace Go.Proofs.Ytfmhfngilimhjaa.Se
open Go.RowKit Crc


theorem meas_ok {l : List UInt8} (h : (meas l).2 = 0) : 6 ≤ l.length ∧ told l ≤ 1024 ∧ told l + 6 ≤ l.length ∧ (meas l).1 = told l + 6 := by
  unfold meas at *
  by_cases h1 : l.length < 6
  · rw [if_pos h1] at h; cases h
  · rw [if_neg h1] at *
    by_cases h2 : 1024 < told l
    · rw [if_pos h2] at h; cases h
    · rw [if_neg h2] at *
      by_cases h3 : l.length < told l + 6
      · rw [if_pos h3] at h; cases h
      · rw [if_neg h3] at *
        exact ⟨by omega, by omega, by omega, rfl⟩
theorem meas_bd (l : List UInt8) : (meas l).2 = 0 ∨ (meas l).2 = 1 ∨ (meas l).2 = 2 := by
  unfold meas
  split
  · exact .inr (.inl rfl)
  · split
    · exact .inr (.inr rfl)
    · split
      · exact .inr (.inl rfl)
      · exact .inl rfl
theorem head_bad {l : List UInt8} (h : (meas l).2 ≠ 0) : headL l = ([], 0, (meas l).2) := by
  unfold meas headL at *
  by_cases h1 : l.length < 6
  · rw [if_pos h1, if_pos h1]
  · rw [if_neg h1] at h; rw [if_neg h1, if_neg h1]
    by_cases h2 : 1024 < told l
    · rw [if_pos h2, if_pos h2]
    · rw [if_neg h2] at h; rw [if_neg h2, if_neg h2]
      by_cases h3 : l.length < told l + 6
      · rw [if_pos h3, if_pos h3]
      · rw [if_neg h3] at h; exact absurd rfl h
theorem uns_eq {l : List UInt8} {n : Nat} (h : l.length = n + 6) : uns l = if l.drop (n + 2) = four (sum (l.take (n + 2))) then ((l.drop 2).take n, 0) else ([], 4) := by
  unfold uns
  rw [h, show n + 6 - 4 = n + 2 from by omega, List.drop_take, show n + 2 - 2 = n from by omega]
theorem head_ok {l : List UInt8} (h : (meas l).2 = 0) : headL l = ((uns (l.take (told l + 6))).1, if (uns (l.take (told l + 6))).2 = 0 then told l + 6 else 0, (uns (l.take (told l + 6))).2) := by
  obtain ⟨h1, h2, h3, h4⟩ := meas_ok h
  rw [uns_eq (n := told l) (by rw [List.length_take]; omega)]
  unfold headL
  rw [if_neg (by omega), if_neg (by omega), if_neg (by omega), List.take_take, Nat.min_eq_left (by omega)]
  by_cases h5 : (l.take (told l + 6)).drop (told l + 2) = four (sum (l.take (told l + 2)))
  · rw [if_pos h5, if_pos h5, if_pos rfl, List.drop_take, List.take_take, Nat.min_eq_left (by omega)]
  · rw [if_neg h5, if_neg h5, if_neg (by decide)]
theorem open_eq1 {l : List UInt8} (h : (meas l).2 ≠ 0) : openL l = ([], (meas l).2) := by
  unfold meas openL at *
  by_cases h1 : l.length < 6
  · rw [if_pos h1, if_pos h1]
  · rw [if_neg h1] at h; rw [if_neg h1, if_neg h1]
    by_cases h2 : 1024 < told l
    · rw [if_pos h2, if_pos h2]
    · rw [if_neg h2] at h; rw [if_neg h2, if_neg h2]
      by_cases h3 : l.length < told l + 6
      · rw [if_pos h3, if_pos h3]
      · rw [if_neg h3] at h; exact absurd rfl h
theorem open_eq2 {l : List UInt8} (h : (meas l).2 = 0) (hl : told l + 6 < l.length) : openL l = ([], 3) := by
  obtain ⟨h1, h2, h3, h4⟩ := meas_ok h
  unfold openL
  rw [if_neg (by omega), if_neg (by omega), if_neg (by omega), if_pos hl]
theorem open_eq3 {l : List UInt8} (h : (meas l).2 = 0) (hl : ¬ told l + 6 < l.length) : openL l = uns l := by
  obtain ⟨h1, h2, h3, h4⟩ := meas_ok h
  rw [uns_eq (n := told l) (by omega)]
  unfold openL
  rw [if_neg (by omega), if_neg (by omega), if_neg (by omega), if_neg hl]

theorem uns_none (l : List UInt8) : (uns l).1 = [] ∨ (uns l).2 = 0 := by
  unfold uns
  split
  · exact .inr rfl
  · exact .inl rfl
theorem open_any (s : ByteArray) (w : World) :
    Calls Try.prog 103 #[.string s] w fun e w' => e = .returned (.tuple #[.string ⟨(openL (bytesOf s)).1.toArray⟩, .int .i64 (openL (bytesOf s)).2]) ∧ Fr (fun _ => False) w w' := by
  have K := measure_any s w
  by_cases h0 : (meas (bytesOf s)).2 = 0
  · obtain ⟨h1, h2, h3, h4⟩ := meas_ok h0
    by_cases hl : told (bytesOf s) + 6 < (bytesOf s).length
    · rw [open_eq2 h0 hl]
      rw [h0, h4] at K
      rw [bytesOf_length] at *
      generalize told (bytesOf s) = n at *
      clear h0 h4
      go_enter Try.func103, Try.ntmps103
      go_wp2_with (go_at_call 116; refine K.mono ?_; rintro e w1 ⟨rfl, rfl⟩)
      go_ret2
      exact ⟨rfl, Fr.refl _ _⟩
    · rw [open_eq3 h0 hl]
      rw [h0, h4] at K
      have K2 := unseal_any s (by rw [← bytesOf_length]; omega) (by rw [← bytesOf_length]; omega) w
      rw [bytesOf_length] at *
      generalize told (bytesOf s) = n at *
      generalize uns (bytesOf s) = u at *
      clear h0 h4
      go_enter Try.func103, Try.ntmps103
      go_wp2_with (first | (go_at_call 116; refine K.mono ?_; rintro e w1 ⟨rfl, rfl⟩) | (go_at_call 117; refine K2.mono ?_; rintro e w2 ⟨rfl, hf2⟩))
      go_ret2
      exact ⟨rfl, hf2⟩
  · rw [open_eq1 h0]
    have hb : ((meas (bytesOf s)).2 != 0) = true := by simpa using h0
    clear h0
    generalize meas (bytesOf s) = m at *
    obtain ⟨m1, m2⟩ := m
    simp only at *
    go_enter Try.func103, Try.ntmps103
    go_wp2_with (go_at_call 116; refine K.mono ?_; rintro e w1 ⟨rfl, rfl⟩)
    go_ret2
    exact ⟨rfl, Fr.refl _ _⟩

/-- a piece of a text -/
theorem piece (s : ByteArray) (a m : Nat) (h : a + m ≤ s.size) (W : World) : (Instr.slice 9 (.string s) (some (.int .i64 (a : Int))) (some (.int .i64 ((a : Int) + (m : Int)))) none).run Try.prog W = .ok (.string (s.extract a (a + m))) W := by
  have k := run_slice_string (P := Try.prog) (w := W) 9 s .i64 .i64 (a : Int) ((a : Int) + (m : Int)) Try.underlying9 (by omega) (by omega) (by omega)
  rw [k, show ((a : Int) + (m : Int)).toNat = a + m from by omega, Int.toNat_natCast]
/-- what Next answers at a place -/
def nextL (l : List UInt8) (at_ : Int) : List UInt8 × Int × Int :=
  if at_ < 0 ∨ (l.length : Int) < at_ then ([], 0, 20) else ((headL (l.drop at_.toNat)).1, if (headL (l.drop at_.toNat)).2.2 = 0 then at_ + ((headL (l.drop at_.toNat)).2.1 : Nat) else 0, (headL (l.drop at_.toNat)).2.2)
end Go.Proofs.Ytfmhfngilimhjaa.Se

namespace Go.Proofs.Ytfmhfngilimhjaa.Se
open Go.RowKit Crc

theorem jn_le (xs : List ByteArray) (k : Nat) : (jn (xs.take k)).length ≤ (jn xs).length := by
  have e : jn xs = jn (xs.take k) ++ jn (xs.drop k) := by
    unfold jn
    rw [← List.flatten_append, ← List.map_append, List.take_append_drop]
  rw [e, List.length_append]
  omega
theorem mk_append (a b : List UInt8) : (⟨a.toArray⟩ : ByteArray) ++ ⟨b.toArray⟩ = ⟨(a ++ b).toArray⟩ := bytesOf_inj (by rw [bytesOf_append]; rfl)

/-- what Seal answers -/
def frameL (l : List UInt8) : List UInt8 × Int := if 1024 < l.length then ([], 2) else (frame l, 0)
end Go.Proofs.Ytfmhfngilimhjaa.Se

namespace Go.Proofs.Ytfmhfngilimhjaa.Se
open Go.RowKit Crc

theorem piece_head (s : ByteArray) (a : Nat) (h : a ≤ s.size) (W : World) : (Instr.slice 9 (.string s) none (some (.int .i64 (a : Int))) none).run Try.prog W = .ok (.string (s.extract 0 a)) W := by
  have k := run_slice_string_h (P := Try.prog) (w := W) 9 s Try.underlying9 .i64 (a : Int) (by omega) (by omega)
  rw [k, Int.toNat_natCast]
theorem umod (a : Int) (m : Nat) (h0 : 0 < m) (h : m ≤ 4611686018427387904) : ∃ n : Nat, wrap64 ((IntKind.u64.wrap a).tmod (m : Int)) = n ∧ n < m := by
  have hw : 0 ≤ IntKind.u64.wrap a := by rw [IntKind.wrap_u64]; omega
  rw [Int.tmod_eq_emod_of_nonneg hw]
  have h1 := Int.emod_nonneg (IntKind.u64.wrap a) (b := (m : Int)) (by omega)
  have h2 := Int.emod_lt_of_pos (IntKind.u64.wrap a) (b := (m : Int)) (by omega)
  generalize IntKind.u64.wrap a % (m : Int) = x at *
  rw [IntWalk.wrap64_in _ ⟨by omega, by omega⟩]
  exact ⟨x.toNat, by omega, by omega⟩
theorem frameL_long {x : ByteArray} (h : 1024 < x.size) : frameL (bytesOf x) = ([], 2) := by unfold frameL; rw [if_pos (by rw [bytesOf_length]; exact h)]
theorem frameL_ok {x : ByteArray} (h : ¬ 1024 < x.size) : frameL (bytesOf x) = (frame (bytesOf x), 0) := by unfold frameL; rw [if_neg (by rw [bytesOf_length]; exact h)]
theorem frame_size (x : ByteArray) : (⟨(frame (bytesOf x)).toArray⟩ : ByteArray).size = x.size + 6 := by rw [size_of, bytesOf_mk (frame (bytesOf x)), frame_length, bytesOf_length]

end Go.Proofs.Ytfmhfngilimhjaa.Se


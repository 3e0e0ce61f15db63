/- The contracts of the document's own functions (package ballastref02): Sum, big, Seal, Next, Open. -/
import Derived.Test.YtcencpkoimahbaaScut
namespace Go.Proofs.Ytcencpkoimahbaa.Se
open Go.RowKit Crc

theorem ref_step {v : BitVec 32} : ((bit v).toNat : Int) = if 4294967296 ≤ (v.toNat : Int) * 2 then Go.bits .xor .i64 ((v.toNat : Int) * 2 - 4294967296) 79764919 else (v.toNat : Int) * 2 := by
  have hv := v.isLt
  rw [bit_toNat]
  by_cases h : 4294967296 ≤ v.toNat * 2
  · rw [if_pos h, if_pos (by omega)]
    have e : (v.toNat : Int) * 2 - 4294967296 = ((v.toNat * 2 - 4294967296 : Nat) : Int) := by omega
    rw [e]
    exact (i64_xor _ 79764919 (by omega) (by omega)).symm
  · rw [if_neg h, if_neg (by omega)]
    omega
theorem refsum_any (s : ByteArray) (hs : s.size ≤ 9223372036854775807) (w : World) :
    Calls Try.prog 55 #[.string s] w fun e w' => e = .returned (.int .i64 ((sum (bytesOf s)).toNat : Int)) ∧ w = w' := by
  go_enter Try.func55, Try.ntmps55
  go_wp2
  go_loop [3, 4] (fun r i => ∃ k, k ≤ s.size ∧ i = .int .i64 (k : Nat) ∧ r = .int .i64 ((sum ((bytesOf s).take k)).toNat : Int)) (fun _ i => s.size - (intOf i).toNat)
  case atStart => exact ⟨0, Nat.zero_le _, rfl, rfl⟩
  case round =>
    obtain ⟨k, hk, rfl, rfl⟩ := hrel
    by_cases hlt : k < s.size
    · have hlt' : k < (bytesOf s).length := bytes_at hlt
      have hnext : sum ((bytesOf s).take (k + 1)) = Crc.bits 8 (sum ((bytesOf s).take k) ^^^ top s[k]) := by
        unfold sum
        rw [List.take_succ_eq_append_getElem hlt', crc_append]
        rfl
      generalize sum ((bytesOf s).take k) = r at *
      have HN := Lib.hid hnext
      clear hnext
      have hx : Go.bits .xor .i64 (r.toNat : Int) ((s[k].toNat : Int) * 16777216) = ((r ^^^ top s[k]).toNat : Int) := by
        have h1 := UInt8.toNat_lt s[k]
        have h2 := r.isLt
        rw [BitVec.toNat_xor, ← i64_xor _ _ (by omega) (by rw [top_toNat]; omega), top_toNat]
        congr 1
      have hby := UInt8.toNat_lt s[k]
      generalize r ^^^ top s[k] = r0 at *
      have HX := Lib.hid hx
      clear hx
      go_wp2
      go_loop [3, 5] (fun r i => ∃ j, j ≤ 8 ∧ i = .int .i64 (j : Nat) ∧ r = .int .i64 ((Crc.bits j r0).toNat : Int)) (fun _ i => 8 - (intOf i).toNat)
      case atStart => exact ⟨0, by decide, rfl, congrArg (Value.int .i64) HX.out⟩
      case round =>
        obtain ⟨j, hj, rfl, rfl⟩ := hrel
        by_cases hj8 : j < 8
        · have hs := bits_succ j r0
          have hst := ref_step (v := Crc.bits j r0)
          rw [← hs] at hst
          generalize Crc.bits j r0 = r1 at *
          have hr1 := r1.isLt
          by_cases hm : 4294967296 ≤ (r1.toNat : Int) * 2
          · rw [if_pos hm] at hst
            have HB := Lib.hid hst
            clear hst hs
            go_wp2
            go_round
            case rel => exact ⟨j + 1, by omega, by go_num, by rw [HB.out]⟩
            case measure => simp [intOf]; omega
          · rw [if_neg hm] at hst
            have HB := Lib.hid hst
            clear hst hs
            go_wp2
            go_round
            case rel => exact ⟨j + 1, by omega, by go_num, by rw [HB.out]⟩
            case measure => simp [intOf]; omega
        · have hj' : j = 8 := by omega
          subst hj'
          rw [← HN.out]
          clear HN HX
          go_wp2
          go_round
          case rel => exact ⟨k + 1, by omega, by go_num, rfl⟩
          case measure => simp [intOf]; omega
    · have hk' : k = s.size := by omega
      rw [List.take_of_length_le (by rw [bytesOf_length]; omega)]
      clear hk'
      go_wp2
      go_ret
      exact ⟨rfl, rfl⟩

theorem big2 (n : Nat) (hn : n < 65536) (w : World) :
    Calls Try.prog 54 #[.int .i64 (n : Int), .int .i64 2] w fun e w' => e = .returned (.string ⟨(hdr n).toArray⟩) ∧ Fr (fun _ => False) w w' := by
  have k1 := mk2
  have e1 : (n : Int) / 256 % 256 = (n : Int) / 256 := by omega
  have hcv := text_laid w (hdr n) 2 rfl _ (hdr_cells n hn)
  have hfr := (Fr.refl (fun _ => False) w).alloc (.cells #[.int .u8 ((n : Int) / 256), .int .u8 ((n : Int) % 256)] 5)
  go_enter Try.func54, Try.ntmps54
  go_wp2
  refine wp_loop_rounds 3 ?_
  iterate 3 (rw [rounds_succ]; go_wp2)
  go_ret
  exact ⟨rfl, hfr⟩
theorem big4 (v : BitVec 32) (w : World) :
    Calls Try.prog 54 #[.int .i64 (v.toNat : Int), .int .i64 4] w fun e w' => e = .returned (.string ⟨(four v).toArray⟩) ∧ Fr (fun _ => False) w w' := by
  have k1 := mk4
  have hv := v.isLt
  have e1 : (v.toNat : Int) / 256 / 256 % 256 = (v.toNat : Int) / 65536 % 256 := by omega
  have e2 : (v.toNat : Int) / 256 / 256 / 256 % 256 = (v.toNat : Int) / 16777216 := by omega
  have hcv := text_laid w (four v) 4 rfl _ (four_cells v)
  have hfr := (Fr.refl (fun _ => False) w).alloc (.cells #[.int .u8 ((v.toNat : Int) / 16777216), .int .u8 ((v.toNat : Int) / 65536 % 256), .int .u8 ((v.toNat : Int) / 256 % 256), .int .u8 ((v.toNat : Int) % 256)] 5)
  go_enter Try.func54, Try.ntmps54
  go_wp2
  refine wp_loop_rounds 5 ?_
  iterate 5 (rw [rounds_succ]; go_wp2)
  go_ret
  exact ⟨rfl, hfr⟩

theorem refseal_any (x : ByteArray) (w : World) :
    Calls Try.prog 35 #[.string x] w fun e w' => e = .returned (.tuple #[.string ⟨(frameL (bytesOf x)).1.toArray⟩, .int .i64 (frameL (bytesOf x)).2]) ∧ Fr (fun _ => False) w w' := by
  by_cases hl : 1024 < x.size
  · rw [frameL_long hl]
    go_enter Try.func35, Try.ntmps35
    go_wp2
    go_ret2
    exact ⟨rfl, Fr.refl _ _⟩
  · rw [frameL_ok hl]
    have hsz := bytesOf_length x
    have hz : ((⟨(hdr x.size).toArray⟩ : ByteArray) ++ x).size = 2 + x.size := by
      rw [ByteArray.size_append]
      rfl
    have hbs : bytesOf ((⟨(hdr x.size).toArray⟩ : ByteArray) ++ x) = hdr x.size ++ bytesOf x := by rw [bytesOf_append]; rfl
    have K1 := big2 x.size (by omega) w
    have KS := refsum_any ((⟨(hdr x.size).toArray⟩ : ByteArray) ++ x) (by omega)
    rw [hbs] at KS
    have KN := big4 (sum (hdr x.size ++ bytesOf x))
    have g1 : ¬ (9223372036854775807 < (hdr x.size).length + x.size) := by
      rw [show (hdr x.size).length = 2 from rfl]; omega
    have g2 : ¬ (9223372036854775807 < 2 + x.size + (four (sum (hdr x.size ++ bytesOf x))).length) := by
      rw [show (four (sum (hdr x.size ++ bytesOf x))).length = 4 from rfl]; omega
    have HE : Hid ((⟨(hdr x.size).toArray⟩ : ByteArray) ++ x ++ ⟨(four (sum (hdr x.size ++ bytesOf x))).toArray⟩ = ⟨(frame (bytesOf x)).toArray⟩) := by
      show _ = _
      apply bytesOf_inj
      rw [bytesOf_append, hbs, bytesOf_mk (four _), bytesOf_mk (frame _)]
      unfold frame
      rw [hsz]
    clear hbs hsz
    go_enter Try.func35, Try.ntmps35
    go_wp2_with (first | (go_at_call 54; refine K1.mono ?_; clear K1; rintro e w1 ⟨rfl, hf1⟩) | (go_at_call 55; refine (KS w1).mono ?_; clear KS; rintro e w3 ⟨rfl, rfl⟩) | (go_at_call 54; refine (KN w1).mono ?_; clear KN; rintro e w4 ⟨rfl, hf4⟩))
    go_ret2
    rw [← HE.out]
    exact ⟨rfl, hf1.trans hf4 (fun _ _ h => h)⟩

theorem frame_eq {l : List UInt8} (h6 : told l + 6 ≤ l.length) : frame ((l.drop 2).take (told l)) = l.take (told l + 6) ↔ (l.take (told l + 6)).drop (told l + 2) = four (sum (l.take (told l + 2))) := by
  have hb : ((l.drop 2).take (told l)).length = told l := by rw [List.length_take, List.length_drop]; omega
  have h2 := hdr_take (t := l) (by omega)
  have e : l.take (told l + 6) = l.take (told l + 2) ++ (l.take (told l + 6)).drop (told l + 2) := by
    have k := List.take_append_drop (told l + 2) (l.take (told l + 6))
    rw [List.take_take, Nat.min_eq_left (by omega)] at k
    exact k.symm
  unfold frame
  rw [hb, h2]
  constructor
  · intro h
    rw [e] at h
    exact (List.append_cancel_left h).symm
  · intro h
    rw [e, h]
end Go.Proofs.Ytcencpkoimahbaa.Se

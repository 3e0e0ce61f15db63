/- Contracts and plain mathematics of earlier stages: Sref, Srefn. -/
import Derived.Test.YtfmhfngilimhjaaKs
namespace Go.Proofs.Ytfmhfngilimhjaa.Se
open Go.RowKit Crc

theorem ref_step {v : BitVec 32} : ((bit v).toNat : Int) = if 4294967296 ≤ (v.toNat : Int) * 2 then Go.bits .xor .i64 ((v.toNat : Int) * 2 - 4294967296) 79764919 else (v.toNat : Int) * 2 := by
  have hv := v.isLt
  rw [bit_toNat]
  by_cases h : 4294967296 ≤ v.toNat * 2
  · rw [if_pos h, if_pos (by omega)]
    have e : (v.toNat : Int) * 2 - 4294967296 = ((v.toNat * 2 - 4294967296 : Nat) : Int) := by omega
    rw [e]
    exact (i64_xor _ 79764919 (by omega) (by omega)).symm
  · rw [if_neg h, if_neg (by omega)]
    omega
theorem refsum_any (s : ByteArray) (hs : s.size ≤ 9223372036854775807) (w : World) :
    Calls Try.prog 82 #[.string s] w fun e w' => e = .returned (.int .i64 ((sum (bytesOf s)).toNat : Int)) ∧ w = w' := by
  go_enter Try.func82, Try.ntmps82
  go_wp2
  go_loop [3, 4] (fun r i => ∃ k, k ≤ s.size ∧ i = .int .i64 (k : Nat) ∧ r = .int .i64 ((sum ((bytesOf s).take k)).toNat : Int)) (fun _ i => s.size - (intOf i).toNat)
  case atStart => exact ⟨0, Nat.zero_le _, rfl, rfl⟩
  case round =>
    obtain ⟨k, hk, rfl, rfl⟩ := hrel
    by_cases hlt : k < s.size
    · have hlt' : k < (bytesOf s).length := bytes_at hlt
      have hnext : sum ((bytesOf s).take (k + 1)) = Crc.bits 8 (sum ((bytesOf s).take k) ^^^ top s[k]) := by
        unfold sum
        rw [List.take_succ_eq_append_getElem hlt', crc_append]
        rfl
      generalize sum ((bytesOf s).take k) = r at *
      have HN := Lib.hid hnext
      clear hnext
      have hx : Go.bits .xor .i64 (r.toNat : Int) ((s[k].toNat : Int) * 16777216) = ((r ^^^ top s[k]).toNat : Int) := by
        have h1 := UInt8.toNat_lt s[k]
        have h2 := r.isLt
        rw [BitVec.toNat_xor, ← i64_xor _ _ (by omega) (by rw [top_toNat]; omega), top_toNat]
        congr 1
      have hby := UInt8.toNat_lt s[k]
      generalize r ^^^ top s[k] = r0 at *
      have HX := Lib.hid hx
      clear hx
      go_wp2
      go_loop [3, 5] (fun r i => ∃ j, j ≤ 8 ∧ i = .int .i64 (j : Nat) ∧ r = .int .i64 ((Crc.bits j r0).toNat : Int)) (fun _ i => 8 - (intOf i).toNat)
      case atStart => exact ⟨0, by decide, rfl, congrArg (Value.int .i64) HX.out⟩
      case round =>
        obtain ⟨j, hj, rfl, rfl⟩ := hrel
        by_cases hj8 : j < 8
        · have hs := bits_succ j r0
          have hst := ref_step (v := Crc.bits j r0)
          rw [← hs] at hst
          generalize Crc.bits j r0 = r1 at *
          have hr1 := r1.isLt
          by_cases hm : 4294967296 ≤ (r1.toNat : Int) * 2
          · rw [if_pos hm] at hst
            have HB := Lib.hid hst
            clear hst hs
            go_wp2
            go_round
            case rel => exact ⟨j + 1, by omega, by go_num, by rw [HB.out]⟩
            case measure => simp [intOf]; omega
          · rw [if_neg hm] at hst
            have HB := Lib.hid hst
            clear hst hs
            go_wp2
            go_round
            case rel => exact ⟨j + 1, by omega, by go_num, by rw [HB.out]⟩
            case measure => simp [intOf]; omega
        · have hj' : j = 8 := by omega
          subst hj'
          rw [← HN.out]
          clear HN HX
          go_wp2
          go_round
          case rel => exact ⟨k + 1, by omega, by go_num, rfl⟩
          case measure => simp [intOf]; omega
    · have hk' : k = s.size := by omega
      rw [List.take_of_length_le (by rw [bytesOf_length]; omega)]
      clear hk'
      go_wp2
      go_ret
      exact ⟨rfl, rfl⟩

theorem big2 (n : Nat) (hn : n < 65536) (w : World) :
    Calls Try.prog 81 #[.int .i64 (n : Int), .int .i64 2] w fun e w' => e = .returned (.string ⟨(hdr n).toArray⟩) ∧ Fr (fun _ => False) w w' := by
  have k1 := mk2
  have e1 : (n : Int) / 256 % 256 = (n : Int) / 256 := by omega
  have hcv := text_laid w (hdr n) 2 rfl _ (hdr_cells n hn)
  have hfr := (Fr.refl (fun _ => False) w).alloc (.cells #[.int .u8 ((n : Int) / 256), .int .u8 ((n : Int) % 256)] 5)
  go_enter Try.func81, Try.ntmps81
  go_wp2
  refine wp_loop_rounds 3 ?_
  iterate 3 (rw [rounds_succ]; go_wp2)
  go_ret
  exact ⟨rfl, hfr⟩
theorem big4 (v : BitVec 32) (w : World) :
    Calls Try.prog 81 #[.int .i64 (v.toNat : Int), .int .i64 4] w fun e w' => e = .returned (.string ⟨(four v).toArray⟩) ∧ Fr (fun _ => False) w w' := by
  have k1 := mk4
  have hv := v.isLt
  have e1 : (v.toNat : Int) / 256 / 256 % 256 = (v.toNat : Int) / 65536 % 256 := by omega
  have e2 : (v.toNat : Int) / 256 / 256 / 256 % 256 = (v.toNat : Int) / 16777216 := by omega
  have hcv := text_laid w (four v) 4 rfl _ (four_cells v)
  have hfr := (Fr.refl (fun _ => False) w).alloc (.cells #[.int .u8 ((v.toNat : Int) / 16777216), .int .u8 ((v.toNat : Int) / 65536 % 256), .int .u8 ((v.toNat : Int) / 256 % 256), .int .u8 ((v.toNat : Int) % 256)] 5)
  go_enter Try.func81, Try.ntmps81
  go_wp2
  refine wp_loop_rounds 5 ?_
  iterate 5 (rw [rounds_succ]; go_wp2)
  go_ret
  exact ⟨rfl, hfr⟩

theorem refseal_any (x : ByteArray) (w : World) :
    Calls Try.prog 62 #[.string x] w fun e w' => e = .returned (.tuple #[.string ⟨(frameL (bytesOf x)).1.toArray⟩, .int .i64 (frameL (bytesOf x)).2]) ∧ Fr (fun _ => False) w w' := by
  by_cases hl : 1024 < x.size
  · rw [frameL_long hl]
    go_enter Try.func62, Try.ntmps62
    go_wp2
    go_ret2
    exact ⟨rfl, Fr.refl _ _⟩
  · rw [frameL_ok hl]
    have hsz := bytesOf_length x
    have hz : ((⟨(hdr x.size).toArray⟩ : ByteArray) ++ x).size = 2 + x.size := by
      rw [ByteArray.size_append]
      rfl
    have hbs : bytesOf ((⟨(hdr x.size).toArray⟩ : ByteArray) ++ x) = hdr x.size ++ bytesOf x := by rw [bytesOf_append]; rfl
    have K1 := big2 x.size (by omega) w
    have KS := refsum_any ((⟨(hdr x.size).toArray⟩ : ByteArray) ++ x) (by omega)
    rw [hbs] at KS
    have KN := big4 (sum (hdr x.size ++ bytesOf x))
    have g1 : ¬ (9223372036854775807 < (hdr x.size).length + x.size) := by
      rw [show (hdr x.size).length = 2 from rfl]; omega
    have g2 : ¬ (9223372036854775807 < 2 + x.size + (four (sum (hdr x.size ++ bytesOf x))).length) := by
      rw [show (four (sum (hdr x.size ++ bytesOf x))).length = 4 from rfl]; omega
    have HE : Hid ((⟨(hdr x.size).toArray⟩ : ByteArray) ++ x ++ ⟨(four (sum (hdr x.size ++ bytesOf x))).toArray⟩ = ⟨(frame (bytesOf x)).toArray⟩) := by
      show _ = _
      apply bytesOf_inj
      rw [bytesOf_append, hbs, bytesOf_mk (four _), bytesOf_mk (frame _)]
      unfold frame
      rw [hsz]
    clear hbs hsz
    go_enter Try.func62, Try.ntmps62
    go_wp2_with (first | (go_at_call 81; refine K1.mono ?_; clear K1; rintro e w1 ⟨rfl, hf1⟩) | (go_at_call 82; refine (KS w1).mono ?_; clear KS; rintro e w3 ⟨rfl, rfl⟩) | (go_at_call 81; refine (KN w1).mono ?_; clear KN; rintro e w4 ⟨rfl, hf4⟩))
    go_ret2
    rw [← HE.out]
    exact ⟨rfl, hf1.trans hf4 (fun _ _ h => h)⟩

theorem frame_eq {l : List UInt8} (h6 : told l + 6 ≤ l.length) : frame ((l.drop 2).take (told l)) = l.take (told l + 6) ↔ (l.take (told l + 6)).drop (told l + 2) = four (sum (l.take (told l + 2))) := by
  have hb : ((l.drop 2).take (told l)).length = told l := by rw [List.length_take, List.length_drop]; omega
  have h2 := hdr_take (t := l) (by omega)
  have e : l.take (told l + 6) = l.take (told l + 2) ++ (l.take (told l + 6)).drop (told l + 2) := by
    have k := List.take_append_drop (told l + 2) (l.take (told l + 6))
    rw [List.take_take, Nat.min_eq_left (by omega)] at k
    exact k.symm
  unfold frame
  rw [hb, h2]
  constructor
  · intro h
    rw [e] at h
    exact (List.append_cancel_left h).symm
  · intro h
    rw [e, h]
end Go.Proofs.Ytfmhfngilimhjaa.Se

namespace Go.Proofs.Ytfmhfngilimhjaa.Se
open Go.RowKit Crc

theorem text_ne {s t : ByteArray} (h : bytesOf s ≠ bytesOf t) : (s.toList == t.toList) = false := by
  rw [beq_eq_false_iff_ne, ByteArray.toList_eq, ByteArray.toList_eq]
  exact h
theorem byte_at (s : ByteArray) (k : Nat) (h : k < s.size) (W : World) : (Instr.index 9 (.string s) (.int .i64 (k : Int))).run Try.prog W = .ok (.int .u8 (s[k].toNat : Int)) W := by
  go_simp
theorem two_bytes (s : ByteArray) (h : 2 ≤ s.size) : (s[0].toNat : Int) * (256 : Int) + (s[1].toNat : Int) = (told (bytesOf s) : Nat) := by
  have h0 : (bytesOf s)[0]! = s[0] := by
    rw [getElem!_pos (bytesOf s) 0 (by rw [bytesOf_length]; omega)]
    rfl
  have h1 : (bytesOf s)[1]! = s[1] := by
    rw [getElem!_pos (bytesOf s) 1 (by rw [bytesOf_length]; omega)]
    rfl
  unfold told
  rw [h0, h1]
  omega

set_option maxHeartbeats 800000 in
theorem refnext_any (s : ByteArray) (hs : s.size ≤ 140737488355328) (at_ : Int) (w : World) :
    Calls Try.prog 96 #[.string s, .int .i64 at_] w fun e w' => e = .returned (.tuple #[.string ⟨(nextL (bytesOf s) at_).1.toArray⟩, .int .i64 (nextL (bytesOf s) at_).2.1, .int .i64 (nextL (bytesOf s) at_).2.2]) ∧ Fr (fun _ => False) w w' := by
  unfold nextL
  by_cases ha : at_ < 0 ∨ ((bytesOf s).length : Int) < at_
  · rw [if_pos ha]
    rw [bytesOf_length] at ha
    by_cases hn : at_ < 0
    · clear ha
      go_enter Try.func96, Try.ntmps96
      go_wp2
      go_ret3
      exact ⟨rfl, Fr.refl _ _⟩
    · have hl : (s.size : Int) < at_ := by omega
      clear ha
      go_enter Try.func96, Try.ntmps96
      go_wp2
      go_ret3
      exact ⟨rfl, Fr.refl _ _⟩
  · rw [if_neg ha]
    rw [bytesOf_length] at ha
    obtain ⟨a, rfl⟩ : ∃ a : Nat, at_ = (a : Int) := ⟨at_.toNat, by omega⟩
    have hal : a ≤ s.size := by omega
    have hb1 : bytesOf (s.extract a s.size) = (bytesOf s).drop a := by rw [bytesOf_extract, size_of, List.take_length]
    have hz1 : (s.extract a s.size).size = s.size - a := by rw [ByteArray.size_extract]; omega
    rw [Int.toNat_natCast, ← hb1]
    have hlen := bytesOf_length (s.extract a s.size)
    have hsl : ∀ W, (Instr.slice 9 (.string s) (some (.int .i64 (a : Int))) none none).run Try.prog W = .ok (.string (s.extract a s.size)) W := fun W => by
      have k := run_slice_string_l (P := Try.prog) (w := W) 9 s Try.underlying9 .i64 (a : Int) (by omega) (by omega)
      rw [k, Int.toNat_natCast]
    clear ha hb1
    generalize s.extract a s.size = r at *
    have hr : r.size ≤ 140737488355328 := by omega
    have har : a + r.size ≤ 140737488355328 := by omega
    clear hz1
    by_cases h6 : r.size < 6
    · have hh : headL (bytesOf r) = ([], 0, 1) := by unfold headL; rw [if_pos (by omega)]
      rw [hh]
      go_enter Try.func96, Try.ntmps96
      go_wp2
      go_ret3
      exact ⟨rfl, Fr.refl _ _⟩
    · have ht := two_bytes r (by omega)
      have htl : told (bytesOf r) < 65536 := by
        unfold told
        have h1 := UInt8.toNat_lt (bytesOf r)[0]!
        have h2 := UInt8.toNat_lt (bytesOf r)[1]!
        omega
      have j0 : (0 : Int) < (r.size : Int) := by omega
      have j1 : (1 : Int) < (r.size : Int) := by omega
      have i0 : ∀ W : World, (Instr.index 9 (.string r) (.int .i64 0)).run Try.prog W = .ok (.int .u8 (r[0].toNat : Int)) W := byte_at r 0 (by omega)
      have i1 : ∀ W : World, (Instr.index 9 (.string r) (.int .i64 1)).run Try.prog W = .ok (.int .u8 (r[1].toNat : Int)) W := byte_at r 1 (by omega)
      have b0 := UInt8.toNat_lt r[0]
      have b1 := UInt8.toNat_lt r[1]
      by_cases h1 : 1024 < told (bytesOf r)
      · have hh : headL (bytesOf r) = ([], 0, 2) := by unfold headL; rw [if_neg (by omega), if_pos (by omega)]
        rw [hh]
        generalize told (bytesOf r) = n at *
        go_enter Try.func96, Try.ntmps96
        go_wp2
        go_quiet (fail)
        go_wp2
        go_ret3
        exact ⟨rfl, (Fr.refl _ _).drewN _⟩
      · by_cases h2 : r.size < told (bytesOf r) + 6
        · have hh : headL (bytesOf r) = ([], 0, 1) := by unfold headL; rw [if_neg (by omega), if_neg (by omega), if_pos (by omega)]
          rw [hh]
          generalize told (bytesOf r) = n at *
          go_enter Try.func96, Try.ntmps96
          go_wp2
          go_quiet (fail)
          go_wp2
          go_ret3
          exact ⟨rfl, (Fr.refl _ _).drewN _⟩
        · have hfe := frame_eq (l := bytesOf r) (by omega)
          have hbb : bytesOf (r.extract 2 (told (bytesOf r) + 2)) = ((bytesOf r).drop 2).take (told (bytesOf r)) := by
            rw [bytesOf_extract, List.drop_take]
            rfl
          have hbz : (r.extract 2 (told (bytesOf r) + 2)).size = told (bytesOf r) := by rw [ByteArray.size_extract]; omega
          have hbh : bytesOf (r.extract 0 (told (bytesOf r) + 6)) = (bytesOf r).take (told (bytesOf r) + 6) := by rw [bytesOf_extract]; rfl
          have K := fun W => refseal_any (r.extract 2 (told (bytesOf r) + 2)) W
          rw [frameL_ok (by omega)] at K
          simp only at K
          have s1 : ∀ W : World, (Instr.slice 9 (.string r) (some (.int .i64 2)) (some (.int .i64 ((told (bytesOf r) : Int) + 2))) none).run Try.prog W = .ok (.string (r.extract 2 (told (bytesOf r) + 2))) W := fun W => by
            have k := run_slice_string (P := Try.prog) (w := W) 9 r .i64 .i64 2 ((told (bytesOf r) : Int) + 2) Try.underlying9 (by omega) (by omega) (by omega)
            rw [k, show ((told (bytesOf r) : Int) + 2).toNat = told (bytesOf r) + 2 from by omega]
            rfl
          have s2 : ∀ W : World, (Instr.slice 9 (.string r) none (some (.int .i64 ((told (bytesOf r) : Int) + 6))) none).run Try.prog W = .ok (.string (r.extract 0 (told (bytesOf r) + 6))) W := fun W => by
            have k := run_slice_string_h (P := Try.prog) (w := W) 9 r Try.underlying9 .i64 ((told (bytesOf r) : Int) + 6) (by omega) (by omega)
            rw [k, show ((told (bytesOf r) : Int) + 6).toNat = told (bytesOf r) + 6 from by omega]
          by_cases hq : ((bytesOf r).take (told (bytesOf r) + 6)).drop (told (bytesOf r) + 2) = four (sum ((bytesOf r).take (told (bytesOf r) + 2)))
          · have hh : headL (bytesOf r) = (((bytesOf r).drop 2).take (told (bytesOf r)), told (bytesOf r) + 6, 0) := by
              unfold headL; rw [if_neg (by omega), if_neg (by omega), if_neg (by omega), if_pos hq]
            have hA : (⟨(frame (bytesOf (r.extract 2 (told (bytesOf r) + 2)))).toArray⟩ : ByteArray) = r.extract 0 (told (bytesOf r) + 6) := by
              apply bytesOf_inj
              rw [bytesOf_mk (frame _), hbh, hbb]
              exact hfe.2 hq
            rw [hh]
            simp only [if_true]
            rw [← hbb, mk_bytesOf (r.extract 2 (told (bytesOf r) + 2))]
            rw [hA] at K
            clear hfe hbb hbh hq hh hA
            generalize told (bytesOf r) = n at *
            generalize r.extract 0 (n + 6) = X at *
            generalize r.extract 2 (n + 2) = Y at *
            go_enter Try.func96, Try.ntmps96
            go_wp2
            go_quiet (fail)
            have f0 := (Fr.refl (fun _ => False) w).drewN nq
            generalize w.drewN nq = w0 at *
            go_wp2_with (go_at_call 62; refine (K w0).mono ?_; clear K; rintro e w1 ⟨rfl, hf1⟩; have q1 : (X.toList == X.toList) = true := beq_self_eq_true _)
            go_ret3
            exact ⟨by rw [show ((n + 6 : Nat) : Int) = (n : Int) + 6 from by omega, ← Int.add_assoc]; rfl, f0.trans hf1 (fun _ _ h => h)⟩
          · have hh : headL (bytesOf r) = ([], 0, 4) := by
              unfold headL; rw [if_neg (by omega), if_neg (by omega), if_neg (by omega), if_neg hq]
            have hA : ((⟨(frame (bytesOf (r.extract 2 (told (bytesOf r) + 2)))).toArray⟩ : ByteArray).toList == (r.extract 0 (told (bytesOf r) + 6)).toList) = false := by
              apply text_ne
              rw [bytesOf_mk (frame _), hbh, hbb]
              exact fun h => hq (hfe.1 h)
            rw [hh]
            simp only
            rw [if_neg (by decide)]
            generalize (⟨(frame (bytesOf (r.extract 2 (told (bytesOf r) + 2)))).toArray⟩ : ByteArray) = A at *
            clear hfe hbb hbh hq hh
            generalize told (bytesOf r) = n at *
            generalize r.extract 0 (n + 6) = X at *
            generalize r.extract 2 (n + 2) = Y at *
            go_enter Try.func96, Try.ntmps96
            go_wp2
            go_quiet (fail)
            have f0 := (Fr.refl (fun _ => False) w).drewN nq
            generalize w.drewN nq = w0 at *
            go_wp2_with (go_at_call 62; refine (K w0).mono ?_; clear K; rintro e w1 ⟨rfl, hf1⟩)
            go_ret3
            exact ⟨rfl, f0.trans hf1 (fun _ _ h => h)⟩

theorem nextL_zero (l : List UInt8) : nextL l 0 = ((headL l).1, if (headL l).2.2 = 0 then ((headL l).2.1 : Int) else 0, (headL l).2.2) := by
  unfold nextL
  rw [if_neg (by omega), show (0 : Int).toNat = 0 from rfl, List.drop_zero, Int.zero_add]
set_option maxHeartbeats 800000 in
theorem refopen_any (s : ByteArray) (hs : s.size ≤ 140737488355328) (w : World) :
    Calls Try.prog 78 #[.string s] w fun e w' => e = .returned (.tuple #[.string ⟨(openL (bytesOf s)).1.toArray⟩, .int .i64 (openL (bytesOf s)).2]) ∧ Fr (fun _ => False) w w' := by
  have K := refnext_any s hs 0 w
  rw [nextL_zero] at K
  have hlen := bytesOf_length s
  by_cases h0 : (meas (bytesOf s)).2 = 0
  · obtain ⟨h1, h2, h3, h4⟩ := meas_ok h0
    have ht := two_bytes s (by omega)
    have j0 : (0 : Int) < (s.size : Int) := by omega
    have j1 : (1 : Int) < (s.size : Int) := by omega
    have i0 : ∀ W : World, (Instr.index 9 (.string s) (.int .i64 0)).run Try.prog W = .ok (.int .u8 (s[0].toNat : Int)) W := byte_at s 0 (by omega)
    have i1 : ∀ W : World, (Instr.index 9 (.string s) (.int .i64 1)).run Try.prog W = .ok (.int .u8 (s[1].toNat : Int)) W := byte_at s 1 (by omega)
    have b0 := UInt8.toNat_lt (s[0]'(by omega))
    have b1 := UInt8.toNat_lt (s[1]'(by omega))
    have hx := uns_none ((bytesOf s).take (told (bytesOf s) + 6))
    have hh := head_ok h0
    have hu : (uns ((bytesOf s).take (told (bytesOf s) + 6))).2 = 0 ∨ (uns ((bytesOf s).take (told (bytesOf s) + 6))).2 = 4 := by
      unfold uns
      split
      · exact .inl rfl
      · exact .inr rfl
    by_cases hl : told (bytesOf s) + 6 < (bytesOf s).length
    · rw [open_eq2 h0 hl]
      rw [hh] at K
      generalize uns ((bytesOf s).take (told (bytesOf s) + 6)) = u at *
      obtain ⟨u1, u2⟩ := u
      simp only at *
      generalize told (bytesOf s) = n at *
      clear hh h0 h4
      rw [hlen] at hl h3 h1
      rcases hu with rfl | rfl
      · rw [if_pos rfl, if_pos rfl] at K
        go_enter Try.func78, Try.ntmps78
        go_wp2_with (go_at_call 96; refine K.mono ?_; clear K; rintro e w1 ⟨rfl, hf1⟩)
        go_quiet (fail)
        go_wp2
        go_ret2
        exact ⟨rfl, hf1.drewN _⟩
      · rw [if_neg (by decide)] at K
        go_enter Try.func78, Try.ntmps78
        go_wp2_with (go_at_call 96; refine K.mono ?_; clear K; rintro e w1 ⟨rfl, hf1⟩)
        go_quiet (fail)
        go_wp2
        go_ret2
        exact ⟨rfl, hf1.drewN _⟩
    · rw [open_eq3 h0 hl]
      have hn : told (bytesOf s) + 6 = s.size := by omega
      have e1 : (bytesOf s).take (told (bytesOf s) + 6) = bytesOf s := List.take_of_length_le (by omega)
      rw [e1] at hx hh hu
      rw [hh] at K
      generalize uns (bytesOf s) = u at *
      obtain ⟨u1, u2⟩ := u
      simp only at *
      generalize told (bytesOf s) = n at *
      clear hh h0 h4 e1
      rcases hu with rfl | rfl
      · rw [if_pos rfl, if_pos rfl] at K
        go_enter Try.func78, Try.ntmps78
        go_wp2_with (go_at_call 96; refine K.mono ?_; clear K; rintro e w1 ⟨rfl, hf1⟩)
        go_quiet (fail)
        go_wp2
        go_ret2
        exact ⟨rfl, hf1.drewN _⟩
      · rw [if_neg (by decide)] at K
        rcases hx with rfl | h
        · go_enter Try.func78, Try.ntmps78
          go_wp2_with (go_at_call 96; refine K.mono ?_; clear K; rintro e w1 ⟨rfl, hf1⟩)
          go_quiet (fail)
          go_wp2
          go_ret2
          exact ⟨rfl, hf1.drewN _⟩
        · cases h
  · have hh := head_bad h0
    rw [open_eq1 h0]
    rw [hh] at K
    simp only at K
    rw [if_neg h0] at K
    rcases meas_bd (bytesOf s) with h | h | h
    · exact absurd h h0
    · rw [h] at K ⊢
      clear h hh h0
      go_enter Try.func78, Try.ntmps78
      go_wp2_with (go_at_call 96; refine K.mono ?_; clear K; rintro e w1 ⟨rfl, hf1⟩)
      go_ret2
      exact ⟨rfl, hf1⟩
    · rw [h] at K ⊢
      clear h hh h0
      go_enter Try.func78, Try.ntmps78
      go_wp2_with (go_at_call 96; refine K.mono ?_; clear K; rintro e w1 ⟨rfl, hf1⟩)
      go_ret2
      exact ⟨rfl, hf1⟩
end Go.Proofs.Ytfmhfngilimhjaa.Se


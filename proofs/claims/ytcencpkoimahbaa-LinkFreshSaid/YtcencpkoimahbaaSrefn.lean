/- The contracts of the document's own Next and Open (package ballastref02). -/
import Derived.Test.YtcencpkoimahbaaSref
namespace Go.Proofs.Ytcencpkoimahbaa.Se
open Go.RowKit Crc

theorem text_ne {s t : ByteArray} (h : bytesOf s ≠ bytesOf t) : (s.toList == t.toList) = false := by
  rw [beq_eq_false_iff_ne, ByteArray.toList_eq, ByteArray.toList_eq]
  exact h
theorem byte_at (s : ByteArray) (k : Nat) (h : k < s.size) (W : World) : (Instr.index 9 (.string s) (.int .i64 (k : Int))).run Try.prog W = .ok (.int .u8 (s[k].toNat : Int)) W := by
  go_simp
theorem two_bytes (s : ByteArray) (h : 2 ≤ s.size) : (s[0].toNat : Int) * (256 : Int) + (s[1].toNat : Int) = (told (bytesOf s) : Nat) := by
  have h0 : (bytesOf s)[0]! = s[0] := by
    rw [getElem!_pos (bytesOf s) 0 (by rw [bytesOf_length]; omega)]
    rfl
  have h1 : (bytesOf s)[1]! = s[1] := by
    rw [getElem!_pos (bytesOf s) 1 (by rw [bytesOf_length]; omega)]
    rfl
  unfold told
  rw [h0, h1]
  omega

set_option maxHeartbeats 800000 in
theorem refnext_any (s : ByteArray) (hs : s.size ≤ 140737488355328) (at_ : Int) (w : World) :
    Calls Try.prog 59 #[.string s, .int .i64 at_] w fun e w' => e = .returned (.tuple #[.string ⟨(nextL (bytesOf s) at_).1.toArray⟩, .int .i64 (nextL (bytesOf s) at_).2.1, .int .i64 (nextL (bytesOf s) at_).2.2]) ∧ Fr (fun _ => False) w w' := by
  unfold nextL
  by_cases ha : at_ < 0 ∨ ((bytesOf s).length : Int) < at_
  · rw [if_pos ha]
    rw [bytesOf_length] at ha
    by_cases hn : at_ < 0
    · clear ha
      go_enter Try.func59, Try.ntmps59
      go_wp2
      go_ret3
      exact ⟨rfl, Fr.refl _ _⟩
    · have hl : (s.size : Int) < at_ := by omega
      clear ha
      go_enter Try.func59, Try.ntmps59
      go_wp2
      go_ret3
      exact ⟨rfl, Fr.refl _ _⟩
  · rw [if_neg ha]
    rw [bytesOf_length] at ha
    obtain ⟨a, rfl⟩ : ∃ a : Nat, at_ = (a : Int) := ⟨at_.toNat, by omega⟩
    have hal : a ≤ s.size := by omega
    have hb1 : bytesOf (s.extract a s.size) = (bytesOf s).drop a := by rw [bytesOf_extract, size_of, List.take_length]
    have hz1 : (s.extract a s.size).size = s.size - a := by rw [ByteArray.size_extract]; omega
    rw [Int.toNat_natCast, ← hb1]
    have hlen := bytesOf_length (s.extract a s.size)
    have hsl : ∀ W, (Instr.slice 9 (.string s) (some (.int .i64 (a : Int))) none none).run Try.prog W = .ok (.string (s.extract a s.size)) W := fun W => by
      have k := run_slice_string_l (P := Try.prog) (w := W) 9 s Try.underlying9 .i64 (a : Int) (by omega) (by omega)
      rw [k, Int.toNat_natCast]
    clear ha hb1
    generalize s.extract a s.size = r at *
    have hr : r.size ≤ 140737488355328 := by omega
    have har : a + r.size ≤ 140737488355328 := by omega
    clear hz1
    by_cases h6 : r.size < 6
    · have hh : headL (bytesOf r) = ([], 0, 1) := by unfold headL; rw [if_pos (by omega)]
      rw [hh]
      go_enter Try.func59, Try.ntmps59
      go_wp2
      go_ret3
      exact ⟨rfl, Fr.refl _ _⟩
    · have ht := two_bytes r (by omega)
      have htl : told (bytesOf r) < 65536 := by
        unfold told
        have h1 := UInt8.toNat_lt (bytesOf r)[0]!
        have h2 := UInt8.toNat_lt (bytesOf r)[1]!
        omega
      have j0 : (0 : Int) < (r.size : Int) := by omega
      have j1 : (1 : Int) < (r.size : Int) := by omega
      have i0 : ∀ W : World, (Instr.index 9 (.string r) (.int .i64 0)).run Try.prog W = .ok (.int .u8 (r[0].toNat : Int)) W := byte_at r 0 (by omega)
      have i1 : ∀ W : World, (Instr.index 9 (.string r) (.int .i64 1)).run Try.prog W = .ok (.int .u8 (r[1].toNat : Int)) W := byte_at r 1 (by omega)
      have b0 := UInt8.toNat_lt r[0]
      have b1 := UInt8.toNat_lt r[1]
      by_cases h1 : 1024 < told (bytesOf r)
      · have hh : headL (bytesOf r) = ([], 0, 2) := by unfold headL; rw [if_neg (by omega), if_pos (by omega)]
        rw [hh]
        generalize told (bytesOf r) = n at *
        go_enter Try.func59, Try.ntmps59
        go_wp2
        go_quiet (fail)
        go_wp2
        go_ret3
        exact ⟨rfl, (Fr.refl _ _).drewN _⟩
      · by_cases h2 : r.size < told (bytesOf r) + 6
        · have hh : headL (bytesOf r) = ([], 0, 1) := by unfold headL; rw [if_neg (by omega), if_neg (by omega), if_pos (by omega)]
          rw [hh]
          generalize told (bytesOf r) = n at *
          go_enter Try.func59, Try.ntmps59
          go_wp2
          go_quiet (fail)
          go_wp2
          go_ret3
          exact ⟨rfl, (Fr.refl _ _).drewN _⟩
        · have hfe := frame_eq (l := bytesOf r) (by omega)
          have hbb : bytesOf (r.extract 2 (told (bytesOf r) + 2)) = ((bytesOf r).drop 2).take (told (bytesOf r)) := by
            rw [bytesOf_extract, List.drop_take]
            rfl
          have hbz : (r.extract 2 (told (bytesOf r) + 2)).size = told (bytesOf r) := by rw [ByteArray.size_extract]; omega
          have hbh : bytesOf (r.extract 0 (told (bytesOf r) + 6)) = (bytesOf r).take (told (bytesOf r) + 6) := by rw [bytesOf_extract]; rfl
          have K := fun W => refseal_any (r.extract 2 (told (bytesOf r) + 2)) W
          rw [frameL_ok (by omega)] at K
          simp only at K
          have s1 : ∀ W : World, (Instr.slice 9 (.string r) (some (.int .i64 2)) (some (.int .i64 ((told (bytesOf r) : Int) + 2))) none).run Try.prog W = .ok (.string (r.extract 2 (told (bytesOf r) + 2))) W := fun W => by
            have k := run_slice_string (P := Try.prog) (w := W) 9 r .i64 .i64 2 ((told (bytesOf r) : Int) + 2) Try.underlying9 (by omega) (by omega) (by omega)
            rw [k, show ((told (bytesOf r) : Int) + 2).toNat = told (bytesOf r) + 2 from by omega]
            rfl
          have s2 : ∀ W : World, (Instr.slice 9 (.string r) none (some (.int .i64 ((told (bytesOf r) : Int) + 6))) none).run Try.prog W = .ok (.string (r.extract 0 (told (bytesOf r) + 6))) W := fun W => by
            have k := run_slice_string_h (P := Try.prog) (w := W) 9 r Try.underlying9 .i64 ((told (bytesOf r) : Int) + 6) (by omega) (by omega)
            rw [k, show ((told (bytesOf r) : Int) + 6).toNat = told (bytesOf r) + 6 from by omega]
          by_cases hq : ((bytesOf r).take (told (bytesOf r) + 6)).drop (told (bytesOf r) + 2) = four (sum ((bytesOf r).take (told (bytesOf r) + 2)))
          · have hh : headL (bytesOf r) = (((bytesOf r).drop 2).take (told (bytesOf r)), told (bytesOf r) + 6, 0) := by
              unfold headL; rw [if_neg (by omega), if_neg (by omega), if_neg (by omega), if_pos hq]
            have hA : (⟨(frame (bytesOf (r.extract 2 (told (bytesOf r) + 2)))).toArray⟩ : ByteArray) = r.extract 0 (told (bytesOf r) + 6) := by
              apply bytesOf_inj
              rw [bytesOf_mk (frame _), hbh, hbb]
              exact hfe.2 hq
            rw [hh]
            simp only [if_true]
            rw [← hbb, mk_bytesOf (r.extract 2 (told (bytesOf r) + 2))]
            rw [hA] at K
            clear hfe hbb hbh hq hh hA
            generalize told (bytesOf r) = n at *
            generalize r.extract 0 (n + 6) = X at *
            generalize r.extract 2 (n + 2) = Y at *
            go_enter Try.func59, Try.ntmps59
            go_wp2
            go_quiet (fail)
            have f0 := (Fr.refl (fun _ => False) w).drewN nq
            generalize w.drewN nq = w0 at *
            go_wp2_with (go_at_call 35; refine (K w0).mono ?_; clear K; rintro e w1 ⟨rfl, hf1⟩; have q1 : (X.toList == X.toList) = true := beq_self_eq_true _)
            go_ret3
            exact ⟨by rw [show ((n + 6 : Nat) : Int) = (n : Int) + 6 from by omega, ← Int.add_assoc]; rfl, f0.trans hf1 (fun _ _ h => h)⟩
          · have hh : headL (bytesOf r) = ([], 0, 4) := by
              unfold headL; rw [if_neg (by omega), if_neg (by omega), if_neg (by omega), if_neg hq]
            have hA : ((⟨(frame (bytesOf (r.extract 2 (told (bytesOf r) + 2)))).toArray⟩ : ByteArray).toList == (r.extract 0 (told (bytesOf r) + 6)).toList) = false := by
              apply text_ne
              rw [bytesOf_mk (frame _), hbh, hbb]
              exact fun h => hq (hfe.1 h)
            rw [hh]
            simp only
            rw [if_neg (by decide)]
            generalize (⟨(frame (bytesOf (r.extract 2 (told (bytesOf r) + 2)))).toArray⟩ : ByteArray) = A at *
            clear hfe hbb hbh hq hh
            generalize told (bytesOf r) = n at *
            generalize r.extract 0 (n + 6) = X at *
            generalize r.extract 2 (n + 2) = Y at *
            go_enter Try.func59, Try.ntmps59
            go_wp2
            go_quiet (fail)
            have f0 := (Fr.refl (fun _ => False) w).drewN nq
            generalize w.drewN nq = w0 at *
            go_wp2_with (go_at_call 35; refine (K w0).mono ?_; clear K; rintro e w1 ⟨rfl, hf1⟩)
            go_ret3
            exact ⟨rfl, f0.trans hf1 (fun _ _ h => h)⟩

theorem nextL_zero (l : List UInt8) : nextL l 0 = ((headL l).1, if (headL l).2.2 = 0 then ((headL l).2.1 : Int) else 0, (headL l).2.2) := by
  unfold nextL
  rw [if_neg (by omega), show (0 : Int).toNat = 0 from rfl, List.drop_zero, Int.zero_add]
set_option maxHeartbeats 800000 in
theorem refopen_any (s : ByteArray) (hs : s.size ≤ 140737488355328) (w : World) :
    Calls Try.prog 41 #[.string s] w fun e w' => e = .returned (.tuple #[.string ⟨(openL (bytesOf s)).1.toArray⟩, .int .i64 (openL (bytesOf s)).2]) ∧ Fr (fun _ => False) w w' := by
  have K := refnext_any s hs 0 w
  rw [nextL_zero] at K
  have hlen := bytesOf_length s
  by_cases h0 : (meas (bytesOf s)).2 = 0
  · obtain ⟨h1, h2, h3, h4⟩ := meas_ok h0
    have ht := two_bytes s (by omega)
    have j0 : (0 : Int) < (s.size : Int) := by omega
    have j1 : (1 : Int) < (s.size : Int) := by omega
    have i0 : ∀ W : World, (Instr.index 9 (.string s) (.int .i64 0)).run Try.prog W = .ok (.int .u8 (s[0].toNat : Int)) W := byte_at s 0 (by omega)
    have i1 : ∀ W : World, (Instr.index 9 (.string s) (.int .i64 1)).run Try.prog W = .ok (.int .u8 (s[1].toNat : Int)) W := byte_at s 1 (by omega)
    have b0 := UInt8.toNat_lt (s[0]'(by omega))
    have b1 := UInt8.toNat_lt (s[1]'(by omega))
    have hx := uns_none ((bytesOf s).take (told (bytesOf s) + 6))
    have hh := head_ok h0
    have hu : (uns ((bytesOf s).take (told (bytesOf s) + 6))).2 = 0 ∨ (uns ((bytesOf s).take (told (bytesOf s) + 6))).2 = 4 := by
      unfold uns
      split
      · exact .inl rfl
      · exact .inr rfl
    by_cases hl : told (bytesOf s) + 6 < (bytesOf s).length
    · rw [open_eq2 h0 hl]
      rw [hh] at K
      generalize uns ((bytesOf s).take (told (bytesOf s) + 6)) = u at *
      obtain ⟨u1, u2⟩ := u
      simp only at *
      generalize told (bytesOf s) = n at *
      clear hh h0 h4
      rw [hlen] at hl h3 h1
      rcases hu with rfl | rfl
      · rw [if_pos rfl, if_pos rfl] at K
        go_enter Try.func41, Try.ntmps41
        go_wp2_with (go_at_call 59; refine K.mono ?_; clear K; rintro e w1 ⟨rfl, hf1⟩)
        go_quiet (fail)
        go_wp2
        go_ret2
        exact ⟨rfl, hf1.drewN _⟩
      · rw [if_neg (by decide)] at K
        go_enter Try.func41, Try.ntmps41
        go_wp2_with (go_at_call 59; refine K.mono ?_; clear K; rintro e w1 ⟨rfl, hf1⟩)
        go_quiet (fail)
        go_wp2
        go_ret2
        exact ⟨rfl, hf1.drewN _⟩
    · rw [open_eq3 h0 hl]
      have hn : told (bytesOf s) + 6 = s.size := by omega
      have e1 : (bytesOf s).take (told (bytesOf s) + 6) = bytesOf s := List.take_of_length_le (by omega)
      rw [e1] at hx hh hu
      rw [hh] at K
      generalize uns (bytesOf s) = u at *
      obtain ⟨u1, u2⟩ := u
      simp only at *
      generalize told (bytesOf s) = n at *
      clear hh h0 h4 e1
      rcases hu with rfl | rfl
      · rw [if_pos rfl, if_pos rfl] at K
        go_enter Try.func41, Try.ntmps41
        go_wp2_with (go_at_call 59; refine K.mono ?_; clear K; rintro e w1 ⟨rfl, hf1⟩)
        go_quiet (fail)
        go_wp2
        go_ret2
        exact ⟨rfl, hf1.drewN _⟩
      · rw [if_neg (by decide)] at K
        rcases hx with rfl | h
        · go_enter Try.func41, Try.ntmps41
          go_wp2_with (go_at_call 59; refine K.mono ?_; clear K; rintro e w1 ⟨rfl, hf1⟩)
          go_quiet (fail)
          go_wp2
          go_ret2
          exact ⟨rfl, hf1.drewN _⟩
        · cases h
  · have hh := head_bad h0
    rw [open_eq1 h0]
    rw [hh] at K
    simp only at K
    rw [if_neg h0] at K
    rcases meas_bd (bytesOf s) with h | h | h
    · exact absurd h h0
    · rw [h] at K ⊢
      clear h hh h0
      go_enter Try.func41, Try.ntmps41
      go_wp2_with (go_at_call 59; refine K.mono ?_; clear K; rintro e w1 ⟨rfl, hf1⟩)
      go_ret2
      exact ⟨rfl, hf1⟩
    · rw [h] at K ⊢
      clear h hh h0
      go_enter Try.func41, Try.ntmps41
      go_wp2_with (go_at_call 59; refine K.mono ?_; clear K; rintro e w1 ⟨rfl, hf1⟩)
      go_ret2
      exact ⟨rfl, hf1⟩
end Go.Proofs.Ytcencpkoimahbaa.Se

/- The contracts of Open and Next. -/
import Derived.Test.YtdoljggaoidljaaGreatSsum
namespace Go.Proofs.YtdoljggaoidljaaGreat.Se
open Go.RowKit Crc


theorem meas_ok {l : List UInt8} (h : (meas l).2 = 0) : 6 ≤ l.length ∧ told l ≤ 1024 ∧ told l + 6 ≤ l.length ∧ (meas l).1 = told l + 6 := by
  unfold meas at *
  by_cases h1 : l.length < 6
  · rw [if_pos h1] at h; cases h
  · rw [if_neg h1] at *
    by_cases h2 : 1024 < told l
    · rw [if_pos h2] at h; cases h
    · rw [if_neg h2] at *
      by_cases h3 : l.length < told l + 6
      · rw [if_pos h3] at h; cases h
      · rw [if_neg h3] at *
        exact ⟨by omega, by omega, by omega, rfl⟩
theorem meas_bd (l : List UInt8) : (meas l).2 = 0 ∨ (meas l).2 = 1 ∨ (meas l).2 = 2 := by
  unfold meas
  split
  · exact .inr (.inl rfl)
  · split
    · exact .inr (.inr rfl)
    · split
      · exact .inr (.inl rfl)
      · exact .inl rfl
theorem head_bad {l : List UInt8} (h : (meas l).2 ≠ 0) : headL l = ([], 0, (meas l).2) := by
  unfold meas headL at *
  by_cases h1 : l.length < 6
  · rw [if_pos h1, if_pos h1]
  · rw [if_neg h1] at h; rw [if_neg h1, if_neg h1]
    by_cases h2 : 1024 < told l
    · rw [if_pos h2, if_pos h2]
    · rw [if_neg h2] at h; rw [if_neg h2, if_neg h2]
      by_cases h3 : l.length < told l + 6
      · rw [if_pos h3, if_pos h3]
      · rw [if_neg h3] at h; exact absurd rfl h
theorem uns_eq {l : List UInt8} {n : Nat} (h : l.length = n + 6) : uns l = if l.drop (n + 2) = four (sum (l.take (n + 2))) then ((l.drop 2).take n, 0) else ([], 4) := by
  unfold uns
  rw [h, show n + 6 - 4 = n + 2 from by omega, List.drop_take, show n + 2 - 2 = n from by omega]
theorem head_ok {l : List UInt8} (h : (meas l).2 = 0) : headL l = ((uns (l.take (told l + 6))).1, if (uns (l.take (told l + 6))).2 = 0 then told l + 6 else 0, (uns (l.take (told l + 6))).2) := by
  obtain ⟨h1, h2, h3, h4⟩ := meas_ok h
  rw [uns_eq (n := told l) (by rw [List.length_take]; omega)]
  unfold headL
  rw [if_neg (by omega), if_neg (by omega), if_neg (by omega), List.take_take, Nat.min_eq_left (by omega)]
  by_cases h5 : (l.take (told l + 6)).drop (told l + 2) = four (sum (l.take (told l + 2)))
  · rw [if_pos h5, if_pos h5, if_pos rfl, List.drop_take, List.take_take, Nat.min_eq_left (by omega)]
  · rw [if_neg h5, if_neg h5, if_neg (by decide)]
theorem uns_none (l : List UInt8) : (uns l).1 = [] ∨ (uns l).2 = 0 := by
  unfold uns
  split
  · exact .inr rfl
  · exact .inl rfl
/-- a piece of a text -/
theorem piece (s : ByteArray) (a m : Nat) (h : a + m ≤ s.size) (W : World) : (Instr.slice 9 (.string s) (some (.int .i64 (a : Int))) (some (.int .i64 ((a : Int) + (m : Int)))) none).run Tryz.prog W = .ok (.string (s.extract a (a + m))) W := by
  have k := run_slice_string (P := Tryz.prog) (w := W) 9 s .i64 .i64 (a : Int) ((a : Int) + (m : Int)) Tryz.underlying9 (by omega) (by omega) (by omega)
  rw [k, show ((a : Int) + (m : Int)).toNat = a + m from by omega, Int.toNat_natCast]
/-- what Next answers at a place -/
def nextL (l : List UInt8) (at_ : Int) : List UInt8 × Int × Int :=
  if at_ < 0 ∨ (l.length : Int) < at_ then ([], 0, 20) else ((headL (l.drop at_.toNat)).1, if (headL (l.drop at_.toNat)).2.2 = 0 then at_ + ((headL (l.drop at_.toNat)).2.1 : Nat) else 0, (headL (l.drop at_.toNat)).2.2)
theorem next_any (s : ByteArray) (hs : s.size ≤ 140737488355328) (at_ : Int) (w : World) :
    Calls Tryz.prog 58 #[.string s, .int .i64 at_] w fun e w' => e = .returned (.tuple #[.string ⟨(nextL (bytesOf s) at_).1.toArray⟩, .int .i64 (nextL (bytesOf s) at_).2.1, .int .i64 (nextL (bytesOf s) at_).2.2]) ∧ Fr (fun _ => False) w w' := by
  unfold nextL
  by_cases ha : at_ < 0 ∨ ((bytesOf s).length : Int) < at_
  · rw [if_pos ha]
    rw [bytesOf_length] at ha
    by_cases hn : at_ < 0
    · clear ha
      go_enter Tryz.func58, Tryz.ntmps58
      go_wp2
      go_ret3
      exact ⟨rfl, Fr.refl _ _⟩
    · have hl : (s.size : Int) < at_ := by omega
      clear ha
      go_enter Tryz.func58, Tryz.ntmps58
      go_wp2
      go_ret3
      exact ⟨rfl, Fr.refl _ _⟩
  · rw [if_neg ha]
    rw [bytesOf_length] at ha
    obtain ⟨a, rfl⟩ : ∃ a : Nat, at_ = (a : Int) := ⟨at_.toNat, by omega⟩
    have hal : a ≤ s.size := by omega
    have hb1 : bytesOf (s.extract a s.size) = (bytesOf s).drop a := by rw [bytesOf_extract, size_of, List.take_length]
    have K := measure_any (s.extract a s.size)
    rw [hb1] at K
    rw [Int.toNat_natCast]
    clear ha
    by_cases h0 : (meas ((bytesOf s).drop a)).2 = 0
    · obtain ⟨h1, h2, h3, h4⟩ := meas_ok h0
      rw [head_ok h0]
      rw [h0, h4] at K
      rw [List.length_drop, bytesOf_length] at *
      generalize hnn : told ((bytesOf s).drop a) = n at *
      have hb2 : bytesOf (s.extract a (a + (n + 6))) = ((bytesOf s).drop a).take (n + 6) := by rw [bytesOf_extract, List.drop_take]; congr 1; omega
      have z2 : (s.extract a (a + (n + 6))).size = n + 6 := by rw [ByteArray.size_extract]; omega
      have K2 := unseal_any (s.extract a (a + (n + 6))) (by omega) (by omega) w
      rw [hb2] at K2
      have hu1 := uns_none (((bytesOf s).drop a).take (n + 6))
      generalize uns (((bytesOf s).drop a).take (n + 6)) = u at *
      clear h0 h4 hnn hb1 hb2
      generalize n + 6 = m at *
      have ham : a + m ≤ s.size := by omega
      obtain ⟨u1, u2⟩ := u
      simp only at *
      have hsl := piece s a m ham
      by_cases hu : u2 = 0
      · subst hu
        rw [if_pos rfl, if_pos rfl]
        go_enter Tryz.func58, Tryz.ntmps58
        go_wp2_with (first | (go_at_call 80; refine (K _).mono ?_; rintro e w1 ⟨rfl, rfl⟩) | (go_at_call 81; refine K2.mono ?_; rintro e w2 ⟨rfl, hf2⟩))
        go_ret3
        exact ⟨rfl, hf2⟩
      · rw [if_neg hu]
        have hb : (u2 != 0) = true := by simpa using hu
        have hun : u1 = [] ∨ u2 = 0 := hu1
        rcases hun with rfl | h
        · clear hu hu1
          go_enter Tryz.func58, Tryz.ntmps58
          go_wp2_with (first | (go_at_call 80; refine (K _).mono ?_; rintro e w1 ⟨rfl, rfl⟩) | (go_at_call 81; refine K2.mono ?_; rintro e w2 ⟨rfl, hf2⟩))
          go_ret3
          exact ⟨rfl, hf2⟩
        · exact absurd h hu
    · rw [head_bad h0]
      simp only
      rw [if_neg h0]
      have hb : ((meas ((bytesOf s).drop a)).2 != 0) = true := by simpa using h0
      clear h0 hb1
      generalize meas ((bytesOf s).drop a) = m at *
      obtain ⟨m1, m2⟩ := m
      simp only at *
      go_enter Tryz.func58, Tryz.ntmps58
      go_wp2_with (go_at_call 80; refine (K _).mono ?_; rintro e w1 ⟨rfl, rfl⟩)
      go_ret3
      exact ⟨rfl, Fr.refl _ _⟩
end Go.Proofs.YtdoljggaoidljaaGreat.Se

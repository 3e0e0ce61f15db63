/- The contract of the document's Num: numbers of one, two and four bytes. -/
import Derived.Test.YtmohefkingnknaaPref
namespace Go.Proofs.Ytmohefkingnknaa.Pa
open Go.RowKit

/-- the document's put, of bytes just laid -/
theorem mput_digits {w : World} {b : Nat} {F : Option Nat} {s : Pk.S} (h : Wm w b F s) (t : List UInt8) (hbd : s.L ≤ 140737488355328 ∨ s.bs.length + t.length ≤ 140737488355328) :
    Calls Try.prog 63 #[.pointer (some ⟨b, 0, none⟩), .slice (some ⟨w.heap.size, 0, none⟩) t.length t.length, .bool true] (w.alloc (.cells (t.map B).toArray 5)) fun e w' => e = .returned (.tuple #[]) ∧ ∃ F', Wm w' b F' (s.put t) ∧ Mv w w' b F F' := by
  have h' : Wm (w.alloc (.cells (t.map B).toArray 5)) b F s := h.fr ((Fr.refl (fun _ => False) w).alloc _) id (fun _ _ => id)
  refine (mput_yes h' _ t.length t (fun j u hu => ?_) hbd).mono fun e w' ⟨he, F', h1, h2⟩ => ⟨he, F', h1, Mv.after ((Fr.refl _ w).alloc _) h2⟩
  have e : (⟨w.heap.size, 0, none⟩ : Addr).add j = ⟨w.heap.size, j, none⟩ := by unfold Addr.add; split <;> simp_all
  rw [e, World.cell?_alloc_at _ _ _ _ rfl]
  simpa using hu

theorem mnum1 {w : World} {b : Nat} {F : Option Nat} {s : Pk.S} (h : Wm w b F s) (n : Int) (hbd : s.L ≤ 140737488355328 ∨ s.bs.length + 1 ≤ 140737488355328) :
    Calls Try.prog 36 #[.pointer (some ⟨b, 0, none⟩), .int .i64 n, .int .i64 1] w fun e w' => e = .returned (.tuple #[]) ∧ ∃ F', Wm w' b F' (s.num 1 n) ∧ Mv w w' b F F' := by
  by_cases hin : 0 ≤ n ∧ n < 256
  · obtain ⟨h0, h1⟩ := hin
    have hf : Pk.fits 1 n = true := fits_of h0 (by simpa using h1)
    have hs : s.num 1 n = s.put (Pk.digits 1 n) := by simp [Pk.S.num, hf]
    have K := mput_digits h (Pk.digits 1 n) (by rw [Pk.digits_length]; exact hbd)
    have hd : ((Pk.digits 1 n).map B).toArray = #[.int .u8 (n % 256)] := by
      simp only [Pk.digits, List.range, List.range.loop, List.map]
      rw [dig_cell 1 n 0 (n % 256) (by simp)]
    rw [hd, Pk.digits_length] at K
    rw [hs]
    have k1 := mk1
    clear hd hs hf hbd
    go_enter Try.func36, Try.ntmps36
    go_wp2
    refine wp_loop_rounds 2 ?_
    iterate 2 (rw [rounds_succ]; go_wp2)
    refine wp_loop_rounds 2 ?_
    iterate 1 (rw [rounds_succ]; go_wp2)
    rw [rounds_succ]
    go_wp2_with fail
    refine K.mono ?_
    rintro e w1 ⟨rfl, F', hw1, hm1⟩
    go_wp2
    go_end0
    exact ⟨rfl, F', hw1, hm1⟩
  · have hf : Pk.fits 1 n = false := by
      have : ¬ Pk.fits 1 n = true := fun e => hin (by simpa [Pk.fits] using e)
      simpa using this
    have hs : s.num 1 n = s.fail 32 := by simp [Pk.S.num, hf]
    have K := mput_no h
    rw [hs]
    clear hs hf hbd
    by_cases hneg : n < 0
    all_goals
      go_enter Try.func36, Try.ntmps36
      go_wp2
      refine wp_loop_rounds 2 ?_
      iterate 1 (rw [rounds_succ]; go_wp2)
      rw [rounds_succ]
      have hge : ¬ n < 0 → 256 ≤ n := by omega
      go_wp2_with fail
      refine K.mono ?_
      rintro e w1 ⟨rfl, F', hw1, hm1⟩
      go_wp2
      refine bodyPost_ret (results_none rfl _ _ _) rfl ?_
      exact ⟨rfl, F', hw1, hm1⟩

theorem mnum2 {w : World} {b : Nat} {F : Option Nat} {s : Pk.S} (h : Wm w b F s) (n : Int) (hbd : s.L ≤ 140737488355328 ∨ s.bs.length + 2 ≤ 140737488355328) :
    Calls Try.prog 36 #[.pointer (some ⟨b, 0, none⟩), .int .i64 n, .int .i64 2] w fun e w' => e = .returned (.tuple #[]) ∧ ∃ F', Wm w' b F' (s.num 2 n) ∧ Mv w w' b F F' := by
  by_cases hin : 0 ≤ n ∧ n < 65536
  · obtain ⟨h0, h1⟩ := hin
    have hf : Pk.fits 2 n = true := fits_of h0 (by simpa using h1)
    have hs : s.num 2 n = s.put (Pk.digits 2 n) := by simp [Pk.S.num, hf]
    have K := mput_digits h (Pk.digits 2 n) (by rw [Pk.digits_length]; exact hbd)
    have hd : ((Pk.digits 2 n).map B).toArray = #[.int .u8 (n / 256 % 256), .int .u8 (n % 256)] := by
      simp only [Pk.digits, List.range, List.range.loop, List.map]
      rw [dig_cell 2 n 0 (n / 256 % 256) (by simp), dig_cell 2 n 1 (n % 256) (by simp)]
    rw [hd, Pk.digits_length] at K
    rw [hs]
    have k1 := mk2
    clear hd hs hf hbd
    go_enter Try.func36, Try.ntmps36
    go_wp2
    refine wp_loop_rounds 3 ?_
    iterate 3 (rw [rounds_succ]; go_wp2)
    refine wp_loop_rounds 3 ?_
    iterate 2 (rw [rounds_succ]; go_wp2)
    rw [rounds_succ]
    go_wp2_with fail
    refine K.mono ?_
    rintro e w1 ⟨rfl, F', hw1, hm1⟩
    go_wp2
    go_end0
    exact ⟨rfl, F', hw1, hm1⟩
  · have hf : Pk.fits 2 n = false := by
      have : ¬ Pk.fits 2 n = true := fun e => hin (by simpa [Pk.fits] using e)
      simpa using this
    have hs : s.num 2 n = s.fail 32 := by simp [Pk.S.num, hf]
    have K := mput_no h
    rw [hs]
    clear hs hf hbd
    by_cases hneg : n < 0
    all_goals
      go_enter Try.func36, Try.ntmps36
      go_wp2
      refine wp_loop_rounds 3 ?_
      iterate 2 (rw [rounds_succ]; go_wp2)
      rw [rounds_succ]
      have hge : ¬ n < 0 → 65536 ≤ n := by omega
      go_wp2_with fail
      refine K.mono ?_
      rintro e w1 ⟨rfl, F', hw1, hm1⟩
      go_wp2
      refine bodyPost_ret (results_none rfl _ _ _) rfl ?_
      exact ⟨rfl, F', hw1, hm1⟩

theorem mnum4 {w : World} {b : Nat} {F : Option Nat} {s : Pk.S} (h : Wm w b F s) (n : Int) (hbd : s.L ≤ 140737488355328 ∨ s.bs.length + 4 ≤ 140737488355328) :
    Calls Try.prog 36 #[.pointer (some ⟨b, 0, none⟩), .int .i64 n, .int .i64 4] w fun e w' => e = .returned (.tuple #[]) ∧ ∃ F', Wm w' b F' (s.num 4 n) ∧ Mv w w' b F F' := by
  by_cases hin : 0 ≤ n ∧ n < 4294967296
  · obtain ⟨h0, h1⟩ := hin
    have hf : Pk.fits 4 n = true := fits_of h0 (by simpa using h1)
    have hs : s.num 4 n = s.put (Pk.digits 4 n) := by simp [Pk.S.num, hf]
    have K := mput_digits h (Pk.digits 4 n) (by rw [Pk.digits_length]; exact hbd)
    have hd : ((Pk.digits 4 n).map B).toArray = #[.int .u8 (n / 256 / 256 / 256 % 256), .int .u8 (n / 256 / 256 % 256), .int .u8 (n / 256 % 256), .int .u8 (n % 256)] := by
      simp only [Pk.digits, List.range, List.range.loop, List.map]
      rw [dig_cell 4 n 0 (n / 256 / 256 / 256 % 256) (by simp; omega), dig_cell 4 n 1 (n / 256 / 256 % 256) (by simp; omega), dig_cell 4 n 2 (n / 256 % 256) (by simp), dig_cell 4 n 3 (n % 256) (by simp)]
    rw [hd, Pk.digits_length] at K
    rw [hs]
    have k1 := mk4
    clear hd hs hf hbd
    go_enter Try.func36, Try.ntmps36
    go_wp2
    refine wp_loop_rounds 5 ?_
    iterate 5 (rw [rounds_succ]; go_wp2)
    refine wp_loop_rounds 5 ?_
    iterate 4 (rw [rounds_succ]; go_wp2)
    rw [rounds_succ]
    go_wp2_with fail
    refine K.mono ?_
    rintro e w1 ⟨rfl, F', hw1, hm1⟩
    go_wp2
    go_end0
    exact ⟨rfl, F', hw1, hm1⟩
  · have hf : Pk.fits 4 n = false := by
      have : ¬ Pk.fits 4 n = true := fun e => hin (by simpa [Pk.fits] using e)
      simpa using this
    have hs : s.num 4 n = s.fail 32 := by simp [Pk.S.num, hf]
    have K := mput_no h
    rw [hs]
    clear hs hf hbd
    by_cases hneg : n < 0
    all_goals
      go_enter Try.func36, Try.ntmps36
      go_wp2
      refine wp_loop_rounds 5 ?_
      iterate 4 (rw [rounds_succ]; go_wp2)
      rw [rounds_succ]
      have hge : ¬ n < 0 → 4294967296 ≤ n := by omega
      go_wp2_with fail
      refine K.mono ?_
      rintro e w1 ⟨rfl, F', hw1, hm1⟩
      go_wp2
      refine bodyPost_ret (results_none rfl _ _ _) rfl ?_
      exact ⟨rfl, F', hw1, hm1⟩
end Go.Proofs.Ytmohefkingnknaa.Pa

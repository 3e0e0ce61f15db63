/- The contracts of fits and digits at the widths 1, 2 and 4. -/
import Derived.Test.YtmohefkingnknaaPput
namespace Go.Proofs.Ytmohefkingnknaa.Pa
open Go.RowKit


theorem fits1 (n : Int) (w : World) :
    Calls Try.prog 69 #[.int .i64 1, .int .i64 n] w fun e w' => e = .returned (.bool (Pk.fits 1 n)) ∧ w = w' := by
  have h1 : 0 ≤ n → Pk.fits 1 n = decide (n < 256) := fun h => by simp [Pk.fits, h]
  have h2 : n < 0 → Pk.fits 1 n = false := fun h => by simp [Pk.fits]; omega
  have H1 := Lib.hid h1
  have H2 := Lib.hid h2
  clear h1 h2
  go_enter Try.func69, Try.ntmps69
  go_wp2
  all_goals go_ret
  all_goals refine ⟨?_, rfl⟩
  · rw [H1.out (by assumption)]; rfl
  · rw [H2.out (by assumption)]; rfl
theorem fits2 (n : Int) (w : World) :
    Calls Try.prog 69 #[.int .i64 2, .int .i64 n] w fun e w' => e = .returned (.bool (Pk.fits 2 n)) ∧ w = w' := by
  have h1 : 0 ≤ n → Pk.fits 2 n = decide (n < 65536) := fun h => by simp [Pk.fits, h]
  have h2 : n < 0 → Pk.fits 2 n = false := fun h => by simp [Pk.fits]; omega
  have H1 := Lib.hid h1
  have H2 := Lib.hid h2
  clear h1 h2
  go_enter Try.func69, Try.ntmps69
  go_wp2
  all_goals go_ret
  all_goals refine ⟨?_, rfl⟩
  · rw [H1.out (by assumption)]; rfl
  · rw [H2.out (by assumption)]; rfl
theorem fits4 (n : Int) (w : World) :
    Calls Try.prog 69 #[.int .i64 4, .int .i64 n] w fun e w' => e = .returned (.bool (Pk.fits 4 n)) ∧ w = w' := by
  have h1 : 0 ≤ n → Pk.fits 4 n = decide (n < 4294967296) := fun h => by simp [Pk.fits, h]
  have h2 : n < 0 → Pk.fits 4 n = false := fun h => by simp [Pk.fits]; omega
  have H1 := Lib.hid h1
  have H2 := Lib.hid h2
  clear h1 h2
  go_enter Try.func69, Try.ntmps69
  go_wp2
  all_goals go_ret
  all_goals refine ⟨?_, rfl⟩
  · rw [H1.out (by assumption)]; rfl
  · rw [H2.out (by assumption)]; rfl
theorem mk1 (w : World) : (Instr.makeSlice 110 (.int .i64 1) (.int .i64 1)).run Try.prog w = .ok (.slice (some ⟨w.heap.size, 0, none⟩) 1 1) (w.alloc (.cells #[.int .u8 0] 5)) := by kernel_rfl
theorem mk2 (w : World) : (Instr.makeSlice 110 (.int .i64 2) (.int .i64 2)).run Try.prog w = .ok (.slice (some ⟨w.heap.size, 0, none⟩) 2 2) (w.alloc (.cells #[.int .u8 0, .int .u8 0] 5)) := by kernel_rfl
theorem mk4 (w : World) : (Instr.makeSlice 110 (.int .i64 4) (.int .i64 4)).run Try.prog w = .ok (.slice (some ⟨w.heap.size, 0, none⟩) 4 4) (w.alloc (.cells #[.int .u8 0, .int .u8 0, .int .u8 0, .int .u8 0] 5)) := by kernel_rfl
theorem dig_cell (width : Nat) (n : Int) (i : Nat) (m : Int) (h : m = n / 2 ^ (8 * (width - 1 - i)) % 256) : B (Pk.dig width n i) = .int .u8 m := by
  unfold B Pk.dig
  have h0 : 0 ≤ n / 2 ^ (8 * (width - 1 - i)) % 256 := Int.emod_nonneg _ (by decide)
  have h1 : n / 2 ^ (8 * (width - 1 - i)) % 256 < 256 := Int.emod_lt_of_pos _ (by decide)
  congr 1
  rw [h, UInt8.toNat_ofNat']
  omega
theorem digits1 (n : Int) (h0 : 0 ≤ n) (h1 : n < 256) (w : World) :
    Calls Try.prog 72 #[.int .i64 1, .int .i64 n] w fun e w' => e = .returned (.slice (some ⟨w.heap.size, 0, none⟩) 1 1) ∧ w' = w.alloc (.cells ((Pk.digits 1 n).map B).toArray 5) := by
  have k1 := mk1
  have hd : ((Pk.digits 1 n).map B).toArray = #[.int .u8 n] := by
    simp only [Pk.digits, List.range, List.range.loop, List.map]
    rw [dig_cell 1 n 0 n (by simp; omega)]
  rw [hd]
  clear hd
  go_enter Try.func72, Try.ntmps72
  go_wp2
  refine wp_loop_rounds 2 ?_
  iterate 2 (rw [rounds_succ]; go_wp2)
  go_ret
  exact ⟨rfl, rfl⟩
theorem digits2 (n : Int) (h0 : 0 ≤ n) (h1 : n < 65536) (w : World) :
    Calls Try.prog 72 #[.int .i64 2, .int .i64 n] w fun e w' => e = .returned (.slice (some ⟨w.heap.size, 0, none⟩) 2 2) ∧ w' = w.alloc (.cells ((Pk.digits 2 n).map B).toArray 5) := by
  have k1 := mk2
  have hd : ((Pk.digits 2 n).map B).toArray = #[.int .u8 (n / 256), .int .u8 (n % 256)] := by
    simp only [Pk.digits, List.range, List.range.loop, List.map]
    rw [dig_cell 2 n 0 (n / 256) (by simp; omega), dig_cell 2 n 1 (n % 256) (by simp)]
  rw [hd]
  clear hd
  go_enter Try.func72, Try.ntmps72
  go_wp2
  refine wp_loop_rounds 3 ?_
  iterate 3 (rw [rounds_succ]; go_wp2)
  go_ret
  exact ⟨rfl, rfl⟩
theorem digits4 (n : Int) (h0 : 0 ≤ n) (h1 : n < 4294967296) (w : World) :
    Calls Try.prog 72 #[.int .i64 4, .int .i64 n] w fun e w' => e = .returned (.slice (some ⟨w.heap.size, 0, none⟩) 4 4) ∧ w' = w.alloc (.cells ((Pk.digits 4 n).map B).toArray 5) := by
  have k1 := mk4
  have hd : ((Pk.digits 4 n).map B).toArray = #[.int .u8 (n / 16777216), .int .u8 (n / 65536 % 256), .int .u8 (n / 256 % 256), .int .u8 (n % 256)] := by
    simp only [Pk.digits, List.range, List.range.loop, List.map]
    rw [dig_cell 4 n 0 (n / 16777216) (by simp; omega), dig_cell 4 n 1 (n / 65536 % 256) (by simp), dig_cell 4 n 2 (n / 256 % 256) (by simp), dig_cell 4 n 3 (n % 256) (by simp)]
  rw [hd]
  clear hd
  go_enter Try.func72, Try.ntmps72
  go_wp2
  refine wp_loop_rounds 5 ?_
  iterate 5 (rw [rounds_succ]; go_wp2)
  go_ret
  exact ⟨rfl, rfl⟩
end Go.Proofs.Ytmohefkingnknaa.Pa

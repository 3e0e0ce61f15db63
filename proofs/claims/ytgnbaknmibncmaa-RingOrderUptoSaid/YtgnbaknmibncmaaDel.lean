/- The contract of slices.Delete at (0, 1), at the three element types of the stage's queues. -/
import Derived.Test.YtgnbaknmibncmaaWide
import Derived.WalkKit
import Derived.Outline
namespace Go.Proofs.Ytgnbaknmibncmaa
open Go.RowKit
theorem infoI : (Try.prog.info? 3).map (fun i => (i.zero, i.size, i.bytes)) = some (some (.int .i64 0), 1, 8) := by kernel_rfl
theorem infoS : (Try.prog.info? 9).map (fun i => (i.zero, i.size, i.bytes)) = some (some (.string .empty), 1, 16) := by kernel_rfl
theorem infoP : (Try.prog.info? 54).map (fun i => (i.zero, i.size, i.bytes)) = some (some (.agg #[.int .i64 0, .int .i64 0]), 2, 16) := by kernel_rfl
theorem zeroI (w : World) : (zeroValue 3).run Try.prog w = .ok (.int .i64 0) w := by kernel_rfl
theorem zeroS (w : World) : (zeroValue 9).run Try.prog w = .ok (.string .empty) w := by kernel_rfl
theorem zeroP (w : World) : (zeroValue 54).run Try.prog w = .ok (.agg #[.int .i64 0, .int .i64 0]) w := by kernel_rfl

set_option maxHeartbeats 4000000 in
theorem delI {w : World} {base n c g : Nat} {hd rest : List Value} (h : w.ownsRow base 3 1 (.slice (some ⟨g, 0, none⟩) (n + 1) c) (n + 1) (hd ++ rest)) (hl : hd.length = 1) (h1 : ∀ u ∈ rest, u.oneCell' = true) :
    Calls Try.prog 30 #[.slice (some ⟨g, 0, none⟩) (n + 1) c, .int .i64 0, .int .i64 1] w fun e w' => e = .returned (.slice (some ⟨g, 0, none⟩) n c) ∧ w'.ownsRow base 3 1 (.slice (some ⟨g, 0, none⟩) n c) n rest ∧ Fr (fun k => k = g) w w' := by
  obtain ⟨i0, hi0, hz0, hz1, hz2⟩ := info_parts infoI
  obtain ⟨A2, c2, hnc, hcap, hm, q1, q2⟩ := wide_form h
  have e2 : c2 = c := by injection hnc with _ _ hv; exact hv.symm
  subst e2
  clear q1 q2 hnc A2
  have hr : rest.length = n * 1 := by
    have := h.1
    rw [List.length_append, hl] at this
    omega
  have hwd := World.ownsRow.drew h
  obtain ⟨A, hA, hsrc⟩ : ∃ A : Addr, (if c2 = 1 then some (⟨g, 0, none⟩ : Addr) else some ⟨g, 1, none⟩) = some A ∧ Hid (∀ t u, rest[t]? = some u → w.drew.cell? (A.add t) = some u) := by
    by_cases hc : c2 = 1
    · refine ⟨⟨g, 0, none⟩, by simp [hc], fun t u hu => ?_⟩
      have h0 : rest.length = 0 := by rw [hr]; omega
      rw [List.length_eq_zero_iff.1 h0] at hu
      simp at hu
    · refine ⟨⟨g, 1, none⟩, by simp [hc], fun t u hu => ?_⟩
      have := hwd.cellAt (1 + t) (by have := (List.getElem?_eq_some_iff.1 hu).1; omega)
      rw [Addr.add_lit, this, List.getElem?_append_right (by omega), hl]
      simpa using hu
  have s3 : Hid (∀ t, t < rest.length → (w.drew.cell? ⟨g, 0 + 0 * 1 + t, none⟩).isSome = true ∧ w.drew.frozen? ⟨g, 0 + 0 * 1 + t, none⟩ = false) := by
    intro t ht
    rw [show 0 + 0 * 1 + t = t by omega]
    refine ⟨?_, hwd.frozenAt t⟩
    rw [hwd.cellAt t (by omega), List.getElem?_eq_getElem (by rw [List.length_append]; omega)]
    rfl
  have hmm : c2 ≤ 9223372036854775807 := by unfold maxLen at hm; omega
  clear hm
  have ho := wide_drop (zs := [Value.int .i64 0]) hwd hl rfl
  have hf := ((Fr.refl (fun k => k = g) w).drew.setCells rest 0 (.inl rfl)).setCells [Value.int .i64 0] (n * 1) (.inl rfl)
  have hcl : ∀ ty, (Builtin.clear_ #[28] ty #[.slice (some ⟨g, n * 1, none⟩) 1 (c2 - n)]).run Try.prog (w.drew.setCells g 0 rest) = .ok (.tuple #[]) ((w.drew.setCells g 0 rest).setCells g (n * 1) [Value.int .i64 0]) := by
    intro ty
    refine run_clear_wide (P := Try.prog) _ 28 3 ty _ [Value.int .i64 0] Try.underlying28 zeroI g (n * 1) 1 _ (by omega) (by simp [Builtin.zeroCells, Value.cells]) (by simp [Value.oneCell']) (fun j hj => ?_) (fun j hj => ?_)
    · have hj2 : j < 1 := hj
      rw [World.cell?_setCells_out g _ _ _ _ (fun _ _ => .inr (by simp; omega)), hwd.cellAt _ (by omega), List.getElem?_eq_getElem (by rw [List.length_append]; omega)]
      rfl
    · rw [World.frozen?_setCells]
      exact hwd.frozenAt _
  obtain ⟨W1, hW1⟩ : ∃ W1, W1 = w.drew.setCells g (0 + 0 * 1) rest := ⟨_, rfl⟩
  obtain ⟨W2, hW2⟩ : ∃ W2, W2 = (w.drew.setCells g 0 rest).setCells g (n * 1) [Value.int .i64 0] := ⟨_, rfl⟩
  rw [← hW2] at ho hf hcl
  rw [show w.drew.setCells g 0 rest = W1 by rw [hW1, Nat.zero_mul, Nat.add_zero]] at hcl
  have hW := Lib.hid hW1
  simp only [Nat.mul_one] at hcl
  clear hW1 hW2 hwd h
  have hle : (1 : Int) ≤ (n : Int) + 1 := by omega
  go_enter Try.func30, Try.ntmps30
  go_wp2_with fail
  go_region_law (refine step_append_room rfl (.tmp 22) (.tmp 25) 28 rfl 3 i0 1 Try.underlying28 hi0 hz1 g 0 0 c2 (by simp [Act.eval, Act.put]) A n (c2 - 1) rest (by simp [Act.eval, Act.put]) (by omega) hsrc.out h1 (by omega) s3.out ?_; rw [← hW.out])
  go_wp2
  go_ret
  exact ⟨rfl, ho, hf⟩

set_option maxHeartbeats 4000000 in
theorem delS {w : World} {base n c g : Nat} {hd rest : List Value} (h : w.ownsRow base 9 1 (.slice (some ⟨g, 0, none⟩) (n + 1) c) (n + 1) (hd ++ rest)) (hl : hd.length = 1) (h1 : ∀ u ∈ rest, u.oneCell' = true) :
    Calls Try.prog 31 #[.slice (some ⟨g, 0, none⟩) (n + 1) c, .int .i64 0, .int .i64 1] w fun e w' => e = .returned (.slice (some ⟨g, 0, none⟩) n c) ∧ w'.ownsRow base 9 1 (.slice (some ⟨g, 0, none⟩) n c) n rest ∧ Fr (fun k => k = g) w w' := by
  obtain ⟨i0, hi0, hz0, hz1, hz2⟩ := info_parts infoS
  obtain ⟨A2, c2, hnc, hcap, hm, q1, q2⟩ := wide_form h
  have e2 : c2 = c := by injection hnc with _ _ hv; exact hv.symm
  subst e2
  clear q1 q2 hnc A2
  have hr : rest.length = n * 1 := by
    have := h.1
    rw [List.length_append, hl] at this
    omega
  have hwd := World.ownsRow.drew h
  obtain ⟨A, hA, hsrc⟩ : ∃ A : Addr, (if c2 = 1 then some (⟨g, 0, none⟩ : Addr) else some ⟨g, 1, none⟩) = some A ∧ Hid (∀ t u, rest[t]? = some u → w.drew.cell? (A.add t) = some u) := by
    by_cases hc : c2 = 1
    · refine ⟨⟨g, 0, none⟩, by simp [hc], fun t u hu => ?_⟩
      have h0 : rest.length = 0 := by rw [hr]; omega
      rw [List.length_eq_zero_iff.1 h0] at hu
      simp at hu
    · refine ⟨⟨g, 1, none⟩, by simp [hc], fun t u hu => ?_⟩
      have := hwd.cellAt (1 + t) (by have := (List.getElem?_eq_some_iff.1 hu).1; omega)
      rw [Addr.add_lit, this, List.getElem?_append_right (by omega), hl]
      simpa using hu
  have s3 : Hid (∀ t, t < rest.length → (w.drew.cell? ⟨g, 0 + 0 * 1 + t, none⟩).isSome = true ∧ w.drew.frozen? ⟨g, 0 + 0 * 1 + t, none⟩ = false) := by
    intro t ht
    rw [show 0 + 0 * 1 + t = t by omega]
    refine ⟨?_, hwd.frozenAt t⟩
    rw [hwd.cellAt t (by omega), List.getElem?_eq_getElem (by rw [List.length_append]; omega)]
    rfl
  have hmm : c2 ≤ 9223372036854775807 := by unfold maxLen at hm; omega
  clear hm
  have ho := wide_drop (zs := [Value.string .empty]) hwd hl rfl
  have hf := ((Fr.refl (fun k => k = g) w).drew.setCells rest 0 (.inl rfl)).setCells [Value.string .empty] (n * 1) (.inl rfl)
  have hcl : ∀ ty, (Builtin.clear_ #[44] ty #[.slice (some ⟨g, n * 1, none⟩) 1 (c2 - n)]).run Try.prog (w.drew.setCells g 0 rest) = .ok (.tuple #[]) ((w.drew.setCells g 0 rest).setCells g (n * 1) [Value.string .empty]) := by
    intro ty
    refine run_clear_wide (P := Try.prog) _ 44 9 ty _ [Value.string .empty] Try.underlying44 zeroS g (n * 1) 1 _ (by omega) (by simp [Builtin.zeroCells, Value.cells]) (by simp [Value.oneCell']) (fun j hj => ?_) (fun j hj => ?_)
    · have hj2 : j < 1 := hj
      rw [World.cell?_setCells_out g _ _ _ _ (fun _ _ => .inr (by simp; omega)), hwd.cellAt _ (by omega), List.getElem?_eq_getElem (by rw [List.length_append]; omega)]
      rfl
    · rw [World.frozen?_setCells]
      exact hwd.frozenAt _
  obtain ⟨W1, hW1⟩ : ∃ W1, W1 = w.drew.setCells g (0 + 0 * 1) rest := ⟨_, rfl⟩
  obtain ⟨W2, hW2⟩ : ∃ W2, W2 = (w.drew.setCells g 0 rest).setCells g (n * 1) [Value.string .empty] := ⟨_, rfl⟩
  rw [← hW2] at ho hf hcl
  rw [show w.drew.setCells g 0 rest = W1 by rw [hW1, Nat.zero_mul, Nat.add_zero]] at hcl
  have hW := Lib.hid hW1
  simp only [Nat.mul_one] at hcl
  clear hW1 hW2 hwd h
  have hle : (1 : Int) ≤ (n : Int) + 1 := by omega
  go_enter Try.func31, Try.ntmps31
  go_wp2_with fail
  go_region_law (refine step_append_room rfl (.tmp 22) (.tmp 25) 44 rfl 9 i0 1 Try.underlying44 hi0 hz1 g 0 0 c2 (by simp [Act.eval, Act.put]) A n (c2 - 1) rest (by simp [Act.eval, Act.put]) (by omega) hsrc.out h1 (by omega) s3.out ?_; rw [← hW.out])
  go_wp2
  go_ret
  exact ⟨rfl, ho, hf⟩

set_option maxHeartbeats 4000000 in
theorem delP {w : World} {base n c g : Nat} {hd rest : List Value} (h : w.ownsRow base 54 2 (.slice (some ⟨g, 0, none⟩) (n + 1) c) (n + 1) (hd ++ rest)) (hl : hd.length = 2) (h1 : ∀ u ∈ rest, u.oneCell' = true) :
    Calls Try.prog 32 #[.slice (some ⟨g, 0, none⟩) (n + 1) c, .int .i64 0, .int .i64 1] w fun e w' => e = .returned (.slice (some ⟨g, 0, none⟩) n c) ∧ w'.ownsRow base 54 2 (.slice (some ⟨g, 0, none⟩) n c) n rest ∧ Fr (fun k => k = g) w w' := by
  obtain ⟨i0, hi0, hz0, hz1, hz2⟩ := info_parts infoP
  obtain ⟨A2, c2, hnc, hcap, hm, q1, q2⟩ := wide_form h
  have e2 : c2 = c := by injection hnc with _ _ hv; exact hv.symm
  subst e2
  clear q1 q2 hnc A2
  have hr : rest.length = n * 2 := by
    have := h.1
    rw [List.length_append, hl] at this
    omega
  have hwd := World.ownsRow.drew h
  obtain ⟨A, hA, hsrc⟩ : ∃ A : Addr, (if c2 = 1 then some (⟨g, 0, none⟩ : Addr) else some ⟨g, 2, none⟩) = some A ∧ Hid (∀ t u, rest[t]? = some u → w.drew.cell? (A.add t) = some u) := by
    by_cases hc : c2 = 1
    · refine ⟨⟨g, 0, none⟩, by simp [hc], fun t u hu => ?_⟩
      have h0 : rest.length = 0 := by rw [hr]; omega
      rw [List.length_eq_zero_iff.1 h0] at hu
      simp at hu
    · refine ⟨⟨g, 2, none⟩, by simp [hc], fun t u hu => ?_⟩
      have := hwd.cellAt (2 + t) (by have := (List.getElem?_eq_some_iff.1 hu).1; omega)
      rw [Addr.add_lit, this, List.getElem?_append_right (by omega), hl]
      simpa using hu
  have s3 : Hid (∀ t, t < rest.length → (w.drew.cell? ⟨g, 0 + 0 * 2 + t, none⟩).isSome = true ∧ w.drew.frozen? ⟨g, 0 + 0 * 2 + t, none⟩ = false) := by
    intro t ht
    rw [show 0 + 0 * 2 + t = t by omega]
    refine ⟨?_, hwd.frozenAt t⟩
    rw [hwd.cellAt t (by omega), List.getElem?_eq_getElem (by rw [List.length_append]; omega)]
    rfl
  have hmm : c2 ≤ 9223372036854775807 := by unfold maxLen at hm; omega
  clear hm
  have ho := wide_drop (zs := [Value.int .i64 0, Value.int .i64 0]) hwd hl rfl
  have hf := ((Fr.refl (fun k => k = g) w).drew.setCells rest 0 (.inl rfl)).setCells [Value.int .i64 0, Value.int .i64 0] (n * 2) (.inl rfl)
  have hcl : ∀ ty, (Builtin.clear_ #[58] ty #[.slice (some ⟨g, n * 2, none⟩) 1 (c2 - n)]).run Try.prog (w.drew.setCells g 0 rest) = .ok (.tuple #[]) ((w.drew.setCells g 0 rest).setCells g (n * 2) [Value.int .i64 0, Value.int .i64 0]) := by
    intro ty
    refine run_clear_wide (P := Try.prog) _ 58 54 ty _ [Value.int .i64 0, Value.int .i64 0] Try.underlying58 zeroP g (n * 2) 1 _ (by omega) (by simp [Builtin.zeroCells, Value.cells, List.range_succ]) (by simp [Value.oneCell']) (fun j hj => ?_) (fun j hj => ?_)
    · have hj2 : j < 2 := hj
      rw [World.cell?_setCells_out g _ _ _ _ (fun _ _ => .inr (by simp; omega)), hwd.cellAt _ (by omega), List.getElem?_eq_getElem (by rw [List.length_append]; omega)]
      rfl
    · rw [World.frozen?_setCells]
      exact hwd.frozenAt _
  obtain ⟨W1, hW1⟩ : ∃ W1, W1 = w.drew.setCells g (0 + 0 * 2) rest := ⟨_, rfl⟩
  obtain ⟨W2, hW2⟩ : ∃ W2, W2 = (w.drew.setCells g 0 rest).setCells g (n * 2) [Value.int .i64 0, Value.int .i64 0] := ⟨_, rfl⟩
  rw [← hW2] at ho hf hcl
  rw [show w.drew.setCells g 0 rest = W1 by rw [hW1, Nat.zero_mul, Nat.add_zero]] at hcl
  have hW := Lib.hid hW1
  clear hW1 hW2 hwd h
  have hle : (1 : Int) ≤ (n : Int) + 1 := by omega
  go_enter Try.func32, Try.ntmps32
  go_wp2_with fail
  go_region_law (refine step_append_room rfl (.tmp 22) (.tmp 25) 58 rfl 54 i0 2 Try.underlying58 hi0 hz1 g 0 0 c2 (by simp [Act.eval, Act.put]) A n (c2 - 1) rest (by simp [Act.eval, Act.put]) (by omega) hsrc.out h1 (by omega) s3.out ?_; rw [← hW.out])
  go_wp2
  go_ret
  exact ⟨rfl, ho, hf⟩
end Go.Proofs.Ytgnbaknmibncmaa

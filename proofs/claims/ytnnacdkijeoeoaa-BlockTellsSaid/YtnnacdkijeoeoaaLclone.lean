/- The contracts of slices.Clone at the rows of a state. -/
import Derived.Test.YtnnacdkijeoeoaaLm
import Derived.Test.YtnnacdkijeoeoaaKe
import Derived.Laws.Cover3
namespace Go.Proofs.Ytnnacdkijeoeoaa.Lk
open Go.RowKit

theorem own_empty (w : World) (e : TypeId) (size base : Nat) (hb : base ≤ w.heap.size) : (w.alloc (.cells #[] e)).ownsRow base e size (.slice (some ⟨w.heap.size, 0, none⟩) 0 0) 0 [] :=
  ⟨by simp, .inr ⟨w.heap.size, 0, #[], rfl, hb, heap_alloc_new w _, Nat.le_refl _, by unfold maxLen; omega, by simp, by simp⟩⟩
theorem run_eql_slice_nil {P : Program} (w : World) (t e : TypeId) (a : Option Addr) (l c : Nat) (h : P.underlying t = some (.slice e)) : (binOp .eql t (.slice a l c) (.slice none 0 0)).run P w = .ok (.bool a.isNone) w := by
  simp only [binOp]
  simp [run_equal_slice_nil w t e a l c h]
theorem cI_one (l : List Int) : ∀ u ∈ l.map (Value.int .i64), u.oneCell' = true := by
  intro u hu
  obtain ⟨x, _, rfl⟩ := List.mem_map.1 hu
  rfl
theorem Try.infoRs : (Try.prog.info? 87).map (fun i => (i.zero, i.size, i.bytes)) = some (some (.agg #[.int .i64 0, .int .i64 0, .int .i64 0, .int .i64 0]), 4, 32) := by kernel_rfl
theorem cRs_one (l : List Rs) : ∀ u ∈ l.flatMap cRs, u.oneCell' = true := by
  intro u hu
  obtain ⟨x, _, hx⟩ := List.mem_flatMap.1 hu
  unfold cRs at hx
  simp only [List.mem_cons, List.not_mem_nil, or_false] at hx
  rcases hx with rfl | rfl | rfl | rfl <;> rfl
set_option maxRecDepth 100000 in
set_option maxHeartbeats 4000000 in
theorem cloners_any {A : Option Addr} {c : Nat} {l : List Rs} (w : World) (h : Rd w A (l.flatMap cRs)) (hb : l.length * 32 ≤ 140737488355328) :
    Calls Try.prog 26 #[.slice A l.length c] w fun e w' => ∃ A' c', e = .returned (.slice A' l.length c') ∧ w'.ownsRow w.heap.size 87 4 (.slice A' l.length c') l.length (l.flatMap cRs) ∧ Fr (fun _ => False) w w' := by
  have hlen := flat_len cRs cRs_len l
  obtain ⟨i0, hi0, hz0, hz1, hz2⟩ := info_parts Try.infoRs
  rcases A with _ | a
  · have h0 : l = [] := by
      rcases l with _ | ⟨x, r⟩
      · rfl
      · obtain ⟨_, _, e, _⟩ := h (by rw [hlen]; simp)
        cases e
    subst h0
    clear hlen
    have hq : ∀ W, (binOp .eql 31 (.slice none 0 c) (.slice none 0 0)).run Try.prog W = .ok (.bool true) W := fun W => (run_eql_slice_nil W _ _ _ 0 c Try.underlying31)
    go_enter Try.func26, Try.ntmps26
    go_wp2_with fail
    go_wp2_with fail
    go_ret
    exact ⟨none, 0, rfl, World.ownsRow_nil _ _ _ _, Fr.refl _ _⟩
  · have hq : ∀ W, (binOp .eql 31 (.slice (some a) l.length c) (.slice none 0 0)).run Try.prog W = .ok (.bool false) W := fun W => (run_eql_slice_nil W _ _ _ _ c Try.underlying31)
    have h1 := h.fr ((Fr.refl (fun _ => False) w).alloc (.cells #[] 87)) fun _ _ => id
    have ho := own_empty w 87 4 w.heap.size (Nat.le_refl _)
    have hone := cRs_one l
    have hbe : 0 + l.length ≤ maxLen := by unfold maxLen; omega
    have hbb : (0 + l.length) * 32 ≤ 140737488355328 := by omega
    have hsz : w.heap.size ≤ (w.alloc (.cells #[] 87)).heap.size := by simp
    generalize l.flatMap cRs = xs at *
    generalize l.length = n at *
    go_enter Try.func26, Try.ntmps26
    go_wp2_with (at_builtin; refine wpList_append_wide _ rfl (.tmp 5) (.tmp 6) 31 rfl w.heap.size 87 i0 _ 4 32 Try.underlying31 hi0 hz0 hz1 hz2 rfl (by decide) (.slice (some ⟨w.heap.size, 0, none⟩) 0 0) 0 [] rfl ho (some a) c n xs hlen rfl h1 hone hbe hbb hsz ?_; intro v6 w6 hown6 hg6 hat6; rw [Nat.zero_add, List.nil_append] at hown6; obtain ⟨A6, c6, rfl, _, _, _, _⟩ := wide_form hown6)
    go_wp2_with fail
    go_ret
    exact ⟨A6, c6, rfl, hown6, ((Fr.refl (fun _ => False) w).alloc _).grown hg6 fun j hj => .inr (by
      have e : some j = some w.heap.size := hj.symm
      injection e with e
      omega)⟩
theorem Try.infoMo : (Try.prog.info? 89).map (fun i => (i.zero, i.size, i.bytes)) = some (some (.agg #[.int .i64 0, .int .i64 0]), 2, 16) := by kernel_rfl
theorem cMo_one (l : List Mo) : ∀ u ∈ l.flatMap cMo, u.oneCell' = true := by
  intro u hu
  obtain ⟨x, _, hx⟩ := List.mem_flatMap.1 hu
  unfold cMo at hx
  simp only [List.mem_cons, List.not_mem_nil, or_false] at hx
  rcases hx with rfl | rfl <;> rfl
set_option maxRecDepth 100000 in
set_option maxHeartbeats 4000000 in
theorem clonemo_any {A : Option Addr} {c : Nat} {l : List Mo} (w : World) (h : Rd w A (l.flatMap cMo)) (hb : l.length * 16 ≤ 140737488355328) :
    Calls Try.prog 27 #[.slice A l.length c] w fun e w' => ∃ A' c', e = .returned (.slice A' l.length c') ∧ w'.ownsRow w.heap.size 89 2 (.slice A' l.length c') l.length (l.flatMap cMo) ∧ Fr (fun _ => False) w w' := by
  have hlen := flat_len cMo cMo_len l
  obtain ⟨i0, hi0, hz0, hz1, hz2⟩ := info_parts Try.infoMo
  rcases A with _ | a
  · have h0 : l = [] := by
      rcases l with _ | ⟨x, r⟩
      · rfl
      · obtain ⟨_, _, e, _⟩ := h (by rw [hlen]; simp)
        cases e
    subst h0
    clear hlen
    have hq : ∀ W, (binOp .eql 32 (.slice none 0 c) (.slice none 0 0)).run Try.prog W = .ok (.bool true) W := fun W => (run_eql_slice_nil W _ _ _ 0 c Try.underlying32)
    go_enter Try.func27, Try.ntmps27
    go_wp2_with fail
    go_wp2_with fail
    go_ret
    exact ⟨none, 0, rfl, World.ownsRow_nil _ _ _ _, Fr.refl _ _⟩
  · have hq : ∀ W, (binOp .eql 32 (.slice (some a) l.length c) (.slice none 0 0)).run Try.prog W = .ok (.bool false) W := fun W => (run_eql_slice_nil W _ _ _ _ c Try.underlying32)
    have h1 := h.fr ((Fr.refl (fun _ => False) w).alloc (.cells #[] 89)) fun _ _ => id
    have ho := own_empty w 89 2 w.heap.size (Nat.le_refl _)
    have hone := cMo_one l
    have hbe : 0 + l.length ≤ maxLen := by unfold maxLen; omega
    have hbb : (0 + l.length) * 16 ≤ 140737488355328 := by omega
    have hsz : w.heap.size ≤ (w.alloc (.cells #[] 89)).heap.size := by simp
    generalize l.flatMap cMo = xs at *
    generalize l.length = n at *
    go_enter Try.func27, Try.ntmps27
    go_wp2_with (at_builtin; refine wpList_append_wide _ rfl (.tmp 5) (.tmp 6) 32 rfl w.heap.size 89 i0 _ 2 16 Try.underlying32 hi0 hz0 hz1 hz2 rfl (by decide) (.slice (some ⟨w.heap.size, 0, none⟩) 0 0) 0 [] rfl ho (some a) c n xs hlen rfl h1 hone hbe hbb hsz ?_; intro v6 w6 hown6 hg6 hat6; rw [Nat.zero_add, List.nil_append] at hown6; obtain ⟨A6, c6, rfl, _, _, _, _⟩ := wide_form hown6)
    go_wp2_with fail
    go_ret
    exact ⟨A6, c6, rfl, hown6, ((Fr.refl (fun _ => False) w).alloc _).grown hg6 fun j hj => .inr (by
      have e : some j = some w.heap.size := hj.symm
      injection e with e
      omega)⟩
theorem Try.infoLn : (Try.prog.info? 49).map (fun i => (i.zero, i.size, i.bytes)) = some (some (.agg #[.int .i64 0, .int .i64 0, .int .i64 0, .int .i64 0, .int .i64 0, .int .i64 0, .int .i64 0, .int .i64 0]), 8, 64) := by kernel_rfl
theorem cLn_one (l : List Ln) : ∀ u ∈ l.flatMap cLn, u.oneCell' = true := by
  intro u hu
  obtain ⟨x, _, hx⟩ := List.mem_flatMap.1 hu
  unfold cLn at hx
  simp only [List.mem_cons, List.not_mem_nil, or_false] at hx
  rcases hx with rfl | rfl | rfl | rfl | rfl | rfl | rfl | rfl <;> rfl
set_option maxRecDepth 100000 in
set_option maxHeartbeats 4000000 in
theorem cloneln_any {A : Option Addr} {c : Nat} {l : List Ln} (w : World) (h : Rd w A (l.flatMap cLn)) (hb : l.length * 64 ≤ 140737488355328) :
    Calls Try.prog 28 #[.slice A l.length c] w fun e w' => ∃ A' c', e = .returned (.slice A' l.length c') ∧ w'.ownsRow w.heap.size 49 8 (.slice A' l.length c') l.length (l.flatMap cLn) ∧ Fr (fun _ => False) w w' := by
  have hlen := flat_len cLn cLn_len l
  obtain ⟨i0, hi0, hz0, hz1, hz2⟩ := info_parts Try.infoLn
  rcases A with _ | a
  · have h0 : l = [] := by
      rcases l with _ | ⟨x, r⟩
      · rfl
      · obtain ⟨_, _, e, _⟩ := h (by rw [hlen]; simp)
        cases e
    subst h0
    clear hlen
    have hq : ∀ W, (binOp .eql 33 (.slice none 0 c) (.slice none 0 0)).run Try.prog W = .ok (.bool true) W := fun W => (run_eql_slice_nil W _ _ _ 0 c Try.underlying33)
    go_enter Try.func28, Try.ntmps28
    go_wp2_with fail
    go_wp2_with fail
    go_ret
    exact ⟨none, 0, rfl, World.ownsRow_nil _ _ _ _, Fr.refl _ _⟩
  · have hq : ∀ W, (binOp .eql 33 (.slice (some a) l.length c) (.slice none 0 0)).run Try.prog W = .ok (.bool false) W := fun W => (run_eql_slice_nil W _ _ _ _ c Try.underlying33)
    have h1 := h.fr ((Fr.refl (fun _ => False) w).alloc (.cells #[] 49)) fun _ _ => id
    have ho := own_empty w 49 8 w.heap.size (Nat.le_refl _)
    have hone := cLn_one l
    have hbe : 0 + l.length ≤ maxLen := by unfold maxLen; omega
    have hbb : (0 + l.length) * 64 ≤ 140737488355328 := by omega
    have hsz : w.heap.size ≤ (w.alloc (.cells #[] 49)).heap.size := by simp
    generalize l.flatMap cLn = xs at *
    generalize l.length = n at *
    go_enter Try.func28, Try.ntmps28
    go_wp2_with (at_builtin; refine wpList_append_wide _ rfl (.tmp 5) (.tmp 6) 33 rfl w.heap.size 49 i0 _ 8 64 Try.underlying33 hi0 hz0 hz1 hz2 rfl (by decide) (.slice (some ⟨w.heap.size, 0, none⟩) 0 0) 0 [] rfl ho (some a) c n xs hlen rfl h1 hone hbe hbb hsz ?_; intro v6 w6 hown6 hg6 hat6; rw [Nat.zero_add, List.nil_append] at hown6; obtain ⟨A6, c6, rfl, _, _, _, _⟩ := wide_form hown6)
    go_wp2_with fail
    go_ret
    exact ⟨A6, c6, rfl, hown6, ((Fr.refl (fun _ => False) w).alloc _).grown hg6 fun j hj => .inr (by
      have e : some j = some w.heap.size := hj.symm
      injection e with e
      omega)⟩
end Go.Proofs.Ytnnacdkijeoeoaa.Lk

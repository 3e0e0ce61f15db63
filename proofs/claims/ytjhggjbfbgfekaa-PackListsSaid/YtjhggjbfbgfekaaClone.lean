/- The contracts of the reader: Left, End; of strings.Clone. -/
import Derived.Test.YtjhggjbfbgfekaaRead
import Derived.Lib.UnsafeStr
import Derived.Lib.BufferWrite
import Derived.Laws.Closers25b
namespace Go.Proofs.Ytjhggjbfbgfekaa
open Go.RowKit

theorem toList_some {s : ByteArray} (h : s.size ≠ 0) : (!s.toList.isEmpty) = true := by
  have : s.toList ≠ [] := fun e => h (by rw [(toList_nil_iff_emptyBytes s).1 e]; rfl)
  simpa using this
theorem toList_none {s : ByteArray} (h : s.size = 0) : s.toList.isEmpty = true := by
  have e : s = ByteArray.empty := by
    apply ByteArray.ext
    exact Array.eq_empty_of_size_eq_zero h
  rw [e, (toList_nil_iff_emptyBytes ByteArray.empty).2 rfl]
  rfl

theorem left_any {w : World} {b : Nat} {r : Rs} (h : Re w b r.s r.bad) :
    Calls Try.prog 26 #[.pointer (some ⟨b, 0, none⟩)] w fun e w' => e = .returned (.int .i64 (r.s.size : Int)) ∧ w = w' := by
  have c0 : w.cell? ⟨b, 0, none⟩ = some (.string r.s) := (h.cell 0).trans rfl
  go_enter Try.func26, Try.ntmps26
  go_wp2
  go_ret
  exact ⟨rfl, rfl⟩

/-- how a reading ended -/
def Rs.fin (r : Rs) : Int := if r.bad = true then 1 else if r.s.size = 0 then 0 else 3
theorem end_any {w : World} {b : Nat} {r : Rs} (h : Re w b r.s r.bad) :
    Calls Try.prog 27 #[.pointer (some ⟨b, 0, none⟩)] w fun e w' => e = .returned (.int .i64 r.fin) ∧ w = w' := by
  have c0 : w.cell? ⟨b, 0, none⟩ = some (.string r.s) := (h.cell 0).trans rfl
  have c1 : w.cell? ⟨b, 1, none⟩ = some (.bool r.bad) := (h.cell 1).trans rfl
  obtain ⟨s, bad⟩ := r
  simp only at c0 c1 ⊢
  cases bad with
  | true =>
    have hf : (Rs.mk s true).fin = 1 := rfl
    rw [hf]
    go_enter Try.func27, Try.ntmps27
    go_wp2
    go_ret
    exact ⟨rfl, rfl⟩
  | false =>
    by_cases hs : s.size = 0
    · have hf : (Rs.mk s false).fin = 0 := by simp [Rs.fin, hs]
      rw [hf]
      have e1 : s = ⟨#[]⟩ := by
        apply ByteArray.ext
        exact Array.eq_empty_of_size_eq_zero hs
      subst e1
      clear hf
      go_enter Try.func27, Try.ntmps27
      go_wp2
      go_ret
      exact ⟨rfl, rfl⟩
    · have hf : (Rs.mk s false).fin = 3 := by simp [Rs.fin, hs]
      rw [hf]
      have hne := toList_some hs
      go_enter Try.func27, Try.ntmps27
      go_wp2
      go_ret
      exact ⟨rfl, rfl⟩

/-- A row of bytes that holds a text's, laid behind all that was there. -/
theorem laid_frame (w : World) (M Y : Array Value) (n : Nat) : Fr (fun _ => False) w (((w.alloc (.cells M 5)).setRow w.heap.size Y).freeze ⟨w.heap.size, 0, none⟩ n) := by
  have h1 : Below w.heap.size w (w.alloc (.cells M 5)) := (Below.refl _ w).alloc (Nat.le_refl _) _
  have h2 : Below w.heap.size w ((w.alloc (.cells M 5)).setRow w.heap.size Y) := h1.trans ⟨rfl, rfl, rfl, by simp, fun k hk => setRow_other _ _ _ _ (Nat.ne_of_lt hk)⟩
  exact Fr.ofBelow (Lib.below_freeze h2 (p := ⟨w.heap.size, 0, none⟩) (Nat.le_refl _) n)
/-- make, of so many bytes -/
theorem clone_make (n : Nat) (hn : n ≤ 140737488355328) : ∃ M : Array Value, M.size = n ∧ ∀ W : World, (Instr.makeSlice 33 (.int .i64 (n : Int)) (.int .i64 (n : Int))).run Try.prog W = .ok (.slice (some ⟨W.heap.size, 0, none⟩) n n) (W.alloc (.cells M 5)) := by
  obtain ⟨i0, hi, hz0, hz1, hz2⟩ := info_parts Try.infoB
  refine ⟨madeCells (Value.int .u8 0).cells n, size_madeCells _ _, fun W => ?_⟩
  have h := run_make (P := Try.prog) W 33 5 i0 (.int .u8 0) Try.underlying33 hi hz0 .i64 .i64 n n (by omega) (by omega) (by rw [hz2]; omega) (by omega)
  simpa [hz1] using h
/-- copy, of a text into a row of its length -/
theorem clone_copy (s : ByteArray) (w : World) (M : Array Value) (hM : M.size = s.size) :
    (Builtin.copy_ #[33, 9] 3 #[.slice (some ⟨w.heap.size, 0, none⟩) s.size s.size, .string s]).run Try.prog (w.alloc (.cells M 5)) = .ok (goInt s.size) ((w.alloc (.cells M 5)).setRow w.heap.size (Lib.byteCells s.data.toList).toArray) := by
  obtain ⟨i0, hi, _, hz1, _⟩ := info_parts Try.infoB
  have h := Lib.run_copy_row_string (P := Try.prog) (w.alloc (.cells M 5)) 33 9 3 5 w.heap.size 0 s.size s.size s M 5 Try.underlying33 (by rw [hi, Option.map_some, hz1]) (heap_alloc_new w _) (Nat.le_refl _) (by omega)
  have hd : M.toList.drop (0 + s.size) = [] := List.drop_of_length_le (by rw [Array.length_toList]; omega)
  rw [hd, List.take_zero, List.nil_append, List.append_nil] at h
  exact h
/-- the text out of that row -/
theorem clone_text (s : ByteArray) (w : World) (M : Array Value) (hlim : s.size ≤ 140737488355328) (h0 : s.size ≠ 0) :
    (Builtin.unsafeString_ #[77, 3] 9 #[.pointer (some ⟨w.heap.size, 0, none⟩), .int .i64 (s.size : Int)]).run Try.prog ((w.alloc (.cells M 5)).setRow w.heap.size (Lib.byteCells s.data.toList).toArray) =
      .ok (.string s) (((w.alloc (.cells M 5)).setRow w.heap.size (Lib.byteCells s.data.toList).toArray).freeze ⟨w.heap.size, 0, none⟩ s.size) := by
  have hrow := setRow_heap (w.alloc (.cells M 5)) w.heap.size M (Lib.byteCells s.data.toList).toArray 5 (0, 0) (heap_alloc_new w _)
  have hsz : s.data.toList.length = s.size := (Lib.size_eq s).symm
  have h := Lib.run_unsafeString_row (P := Try.prog) _ 77 3 9 5 Try.underlying77 (by kernel_rfl) w.heap.size (Lib.byteCells s.data.toList).toArray.size (by unfold World.shape?; rw [hrow]) s.data.toList
    (fun e => h0 (by rw [← hsz, e]; rfl)) (by rw [List.size_toArray, Lib.byteCells_length]; exact Nat.le_refl _) (by omega)
    (fun j x hx => Lib.cells_of_row hrow s.data.toList.length j _ (by rw [List.toList_toArray, List.take_of_length_le (by rw [Lib.byteCells_length]; exact Nat.le_refl _)]; simp [Lib.byteCells, hx]))
  rw [hsz] at h
  exact h
theorem clone_any (s : ByteArray) (w : World) (hlim : s.size ≤ 140737488355328) :
    Calls Try.prog 44 #[.string s] w fun e w' => e = .returned (.string s) ∧ Fr (fun _ => False) w w' := by
  by_cases h0 : s.size = 0
  · have e1 : s = ⟨#[]⟩ := by
      apply ByteArray.ext
      exact Array.eq_empty_of_size_eq_zero h0
    subst e1
    clear h0 hlim
    go_enter Try.func44, Try.ntmps44
    go_wp2
    go_ret
    exact ⟨rfl, Fr.refl _ _⟩
  · obtain ⟨M, hM, hmk⟩ := clone_make s.size hlim
    have hcp := clone_copy s w M hM
    have hus := clone_text s w M hlim h0
    have hfr := laid_frame w M (Lib.byteCells s.data.toList).toArray s.size
    clear hM
    go_enter Try.func44, Try.ntmps44
    go_wp2
    go_ret
    exact ⟨rfl, hfr⟩

theorem sclone_any (s : ByteArray) (w : World) (hlim : s.size ≤ 140737488355328) :
    Calls Try.prog 39 #[.string s] w fun e w' => e = .returned (.string s) ∧ Fr (fun _ => False) w w' := by
  have K := clone_any s w hlim
  go_enter Try.func39, Try.ntmps39
  go_wp2_with (go_at_call 44; refine K.mono ?_; rintro e w1 ⟨rfl, hf1⟩)
  go_ret
  exact ⟨rfl, hf1⟩
end Go.Proofs.Ytjhggjbfbgfekaa

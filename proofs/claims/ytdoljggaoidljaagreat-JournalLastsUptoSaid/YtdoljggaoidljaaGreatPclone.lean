/- The contracts of the reader: Left, End; of strings.Clone. -/
import Derived.Test.YtdoljggaoidljaaGreatPread
import Derived.Lib.UnsafeStr
import Derived.Lib.BufferWrite
import Derived.Laws.Closers25b
namespace Go.Proofs.YtdoljggaoidljaaGreat.Pa
open Go.RowKit

theorem toList_some {s : ByteArray} (h : s.size ≠ 0) : (!s.toList.isEmpty) = true := by
  have : s.toList ≠ [] := fun e => h (by rw [(toList_nil_iff_emptyBytes s).1 e]; rfl)
  simpa using this
theorem toList_none {s : ByteArray} (h : s.size = 0) : s.toList.isEmpty = true := by
  have e : s = ByteArray.empty := by
    apply ByteArray.ext
    exact Array.eq_empty_of_size_eq_zero h
  rw [e, (toList_nil_iff_emptyBytes ByteArray.empty).2 rfl]
  rfl

theorem left_any {w : World} {b : Nat} {r : Rs} (h : Re w b r.s r.bad) :
    Calls Tryz.prog 61 #[.pointer (some ⟨b, 0, none⟩)] w fun e w' => e = .returned (.int .i64 (r.s.size : Int)) ∧ w = w' := by
  have c0 : w.cell? ⟨b, 0, none⟩ = some (.string r.s) := (h.cell 0).trans rfl
  go_enter Tryz.func61, Tryz.ntmps61
  go_wp2
  go_ret
  exact ⟨rfl, rfl⟩

/-- how a reading ended -/
def Rs.fin (r : Rs) : Int := if r.bad = true then 1 else if r.s.size = 0 then 0 else 3
theorem end_any {w : World} {b : Nat} {r : Rs} (h : Re w b r.s r.bad) :
    Calls Tryz.prog 46 #[.pointer (some ⟨b, 0, none⟩)] w fun e w' => e = .returned (.int .i64 r.fin) ∧ w = w' := by
  have c0 : w.cell? ⟨b, 0, none⟩ = some (.string r.s) := (h.cell 0).trans rfl
  have c1 : w.cell? ⟨b, 1, none⟩ = some (.bool r.bad) := (h.cell 1).trans rfl
  obtain ⟨s, bad⟩ := r
  simp only at c0 c1 ⊢
  cases bad with
  | true =>
    have hf : (Rs.mk s true).fin = 1 := rfl
    rw [hf]
    go_enter Tryz.func46, Tryz.ntmps46
    go_wp2
    go_ret
    exact ⟨rfl, rfl⟩
  | false =>
    by_cases hs : s.size = 0
    · have hf : (Rs.mk s false).fin = 0 := by simp [Rs.fin, hs]
      rw [hf]
      have e1 : s = ⟨#[]⟩ := by
        apply ByteArray.ext
        exact Array.eq_empty_of_size_eq_zero hs
      subst e1
      clear hf
      go_enter Tryz.func46, Tryz.ntmps46
      go_wp2
      go_ret
      exact ⟨rfl, rfl⟩
    · have hf : (Rs.mk s false).fin = 3 := by simp [Rs.fin, hs]
      rw [hf]
      have hne := toList_some hs
      go_enter Tryz.func46, Tryz.ntmps46
      go_wp2
      go_ret
      exact ⟨rfl, rfl⟩

theorem rbyte_any {w : World} {b : Nat} {r : Rs} (h : Re w b r.s r.bad) :
    Calls Tryz.prog 44 #[.pointer (some ⟨b, 0, none⟩)] w fun e w' => e = .returned (.int .i64 (val (bytesOf (r.tk 1)))) ∧ Re w' b (r.aft 1).s (r.aft 1).bad ∧ Fr (fun k => k = b) w w' := by
  have K := number_any h 1 (by omega)
  go_enter Tryz.func44, Tryz.ntmps44
  go_wp2_with (go_at_call 60; refine K.mono ?_; rintro e w1 ⟨rfl, hw1, hf1⟩)
  go_ret
  exact ⟨rfl, hw1, hf1⟩
theorem rlong_any {w : World} {b : Nat} {r : Rs} (h : Re w b r.s r.bad) :
    Calls Tryz.prog 43 #[.pointer (some ⟨b, 0, none⟩)] w fun e w' => e = .returned (.int .i64 (val (bytesOf (r.tk 4)))) ∧ Re w' b (r.aft 4).s (r.aft 4).bad ∧ Fr (fun k => k = b) w w' := by
  have K := number_any h 4 (by omega)
  go_enter Tryz.func43, Tryz.ntmps43
  go_wp2_with (go_at_call 60; refine K.mono ?_; rintro e w1 ⟨rfl, hw1, hf1⟩)
  go_ret
  exact ⟨rfl, hw1, hf1⟩

end Go.Proofs.YtdoljggaoidljaaGreat.Pa

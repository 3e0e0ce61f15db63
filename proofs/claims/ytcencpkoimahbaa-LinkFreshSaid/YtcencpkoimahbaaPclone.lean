/- The contracts of the reader: Left, End; of strings.Clone. -/
import Derived.Test.YtcencpkoimahbaaPread
import Derived.Lib.UnsafeStr
import Derived.Lib.BufferWrite
import Derived.Laws.Closers25b
namespace Go.Proofs.Ytcencpkoimahbaa.Pa
open Go.RowKit

theorem Rs.tk_size (r : Rs) (n : Nat) : (r.tk n).size ≤ n := by
  unfold Rs.tk; split
  · simp [ByteArray.size]
  · simp [ByteArray.size_extract]; omega
theorem rbyte_any {w : World} {b : Nat} {r : Rs} (h : Re w b r.s r.bad) :
    Calls Try.prog 38 #[.pointer (some ⟨b, 0, none⟩)] w fun e w' => e = .returned (.int .i64 (val (bytesOf (r.tk 1)))) ∧ Re w' b (r.aft 1).s (r.aft 1).bad ∧ Fr (fun k => k = b) w w' := by
  have K := number_any h 1 (by omega)
  go_enter Try.func38, Try.ntmps38
  go_wp2_with (go_at_call 58; refine K.mono ?_; rintro e w1 ⟨rfl, hw1, hf1⟩)
  go_ret
  exact ⟨rfl, hw1, hf1⟩
theorem rword_any {w : World} {b : Nat} {r : Rs} (h : Re w b r.s r.bad) :
    Calls Try.prog 39 #[.pointer (some ⟨b, 0, none⟩)] w fun e w' => e = .returned (.int .i64 (val (bytesOf (r.tk 2)))) ∧ Re w' b (r.aft 2).s (r.aft 2).bad ∧ Fr (fun k => k = b) w w' := by
  have K := number_any h 2 (by omega)
  go_enter Try.func39, Try.ntmps39
  go_wp2_with (go_at_call 58; refine K.mono ?_; rintro e w1 ⟨rfl, hw1, hf1⟩)
  go_ret
  exact ⟨rfl, hw1, hf1⟩
theorem rlong_any {w : World} {b : Nat} {r : Rs} (h : Re w b r.s r.bad) :
    Calls Try.prog 40 #[.pointer (some ⟨b, 0, none⟩)] w fun e w' => e = .returned (.int .i64 (val (bytesOf (r.tk 4)))) ∧ Re w' b (r.aft 4).s (r.aft 4).bad ∧ Fr (fun k => k = b) w w' := by
  have K := number_any h 4 (by omega)
  go_enter Try.func40, Try.ntmps40
  go_wp2_with (go_at_call 58; refine K.mono ?_; rintro e w1 ⟨rfl, hw1, hf1⟩)
  go_ret
  exact ⟨rfl, hw1, hf1⟩

end Go.Proofs.Ytcencpkoimahbaa.Pa

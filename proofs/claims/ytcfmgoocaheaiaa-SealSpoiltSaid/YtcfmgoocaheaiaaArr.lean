/- How an argument that is an array of four bytes is read. -/
import Derived.Test.YtcfmgoocaheaiaaLaw
import Derived.Test.YtcfmgoocaheaiaaHeap
namespace Go.Proofs.Ytcfmgoocaheaiaa
open Go.ChangeShapes Go.WideShapes Go.ChangeAt Go.RowKit

theorem Try.cellByte : Try.prog.cellsOf 5 = 1 := by kernel_rfl
theorem Try.cellArr4 : Try.prog.cellsOf 35 = 4 := by kernel_rfl
section
variable {H : Type} {enc : TypeId × Value → H} {w : World} {base : Nat}
theorem byte_of {spare : Nat → Bool} {held : Bool} {b0 m : Nat} {c : Value} {y : DataW H × List MemPlace} (h : DataW.trod enc Try.prog w b0 spare held m 5 [c] = some y) : ∃ x : UInt8, c = B x := by
  obtain ⟨a, e, _, wa⟩ := DataW.trod_int Try.underlying5 h
  have hc : c = .int .u8 a := by injection e
  refine ⟨UInt8.ofNat a.toNat, ?_⟩
  simp only [Lit.wf, IntKind.min, IntKind.max, IntKind.signed, IntKind.bits, Bool.and_eq_true] at wa
  have h0 : 0 ≤ a := by simpa using wa.1
  have h1 : a ≤ 255 := by simpa using wa.2
  rw [hc]
  unfold B
  congr 1
  rw [UInt8.toNat_ofNat']
  omega
theorem open_arr4 {v : Value} {d : DataW H} {ps : List MemPlace} (hv : Value.okWide Try.prog w .any base 35 v) (h : DataW.Trod enc Try.prog w 0 (fun _ => true) true 35 v d ps) :
    ∃ x0 x1 x2 x3 : UInt8, v = .agg #[B x0, B x1, B x2, B x3] := by
  simp only [Value.okWide, Try.underlying35] at hv
  obtain ⟨cs, rfl, hcs, _⟩ := hv
  rw [Try.cellArr4] at hcs
  obtain ⟨fuel, hf⟩ := h
  cases fuel with
  | zero => simp [DataW.trod] at hf
  | succ m =>
    rw [DataW.trod_step] at hf
    unfold DataW.trodStep at hf
    simp only [Try.underlying35, Value.cells] at hf
    rw [Try.cellByte, Try.cellArr4, if_pos (by rw [Array.length_toList]; exact hcs)] at hf
    simp only [Option.map_eq_some_iff] at hf
    obtain ⟨xs, hx, _⟩ := hf
    obtain ⟨c0, c1, c2, c3, hl⟩ : ∃ c0 c1 c2 c3, cs.toList = [c0, c1, c2, c3] := by
      match hm : cs.toList, (show cs.toList.length = 4 by rw [Array.length_toList]; exact hcs) with
      | [c0, c1, c2, c3], _ => exact ⟨c0, c1, c2, c3, rfl⟩
    rw [hl] at hx
    have hr : List.range 4 = [0, 1, 2, 3] := rfl
    rw [hr] at hx
    simp only [List.mapM_cons, List.mapM_nil, bind, Option.bind_eq_some_iff, pure] at hx
    obtain ⟨y0, h0, ys, ⟨y1, h1, ys1, ⟨y2, h2, ys2, ⟨y3, h3, _⟩, _⟩, _⟩, _⟩ := hx
    obtain ⟨x0, rfl⟩ := byte_of (show DataW.trod enc Try.prog w 0 (fun _ => true) true m 5 [c0] = some y0 from h0)
    obtain ⟨x1, rfl⟩ := byte_of (show DataW.trod enc Try.prog w 0 (fun _ => true) true m 5 [c1] = some y1 from h1)
    obtain ⟨x2, rfl⟩ := byte_of (show DataW.trod enc Try.prog w 0 (fun _ => true) true m 5 [c2] = some y2 from h2)
    obtain ⟨x3, rfl⟩ := byte_of (show DataW.trod enc Try.prog w 0 (fun _ => true) true m 5 [c3] = some y3 from h3)
    refine ⟨x0, x1, x2, x3, ?_⟩
    congr 1
    apply Array.ext'
    exact hl
end
end Go.Proofs.Ytcfmgoocaheaiaa

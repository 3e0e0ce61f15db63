/- How arguments are read that are movers, looks, and three numbers. -/
import Derived.Test.YtbjbkaphigolnaaKa
import Derived.Deep.Slices
import Derived.Lib.SmallJoins
namespace Go.Proofs.Ytbjbkaphigolnaa.Mv
open Go.ChangeShapes Go.WideShapes Go.ChangeAt Go.RowKit Go.Deep Go.Joins

theorem Try.cellsMover : Try.prog.cellsOf 23 = 2 := by kernel_rfl
theorem Try.cellsLook : Try.prog.cellsOf 25 = 3 := by kernel_rfl
theorem Try.cellsArr3 : Try.prog.cellsOf 26 = 3 := by kernel_rfl
section
variable {H : Type} {enc : TypeId × Value → H} {w : World} {base : Nat}
theorem int_of {n : Nat} {c : Value} {y : DataW H × List MemPlace} (h : DataW.trod enc Try.prog w 0 (fun _ => true) true n 3 [c] = some y) : ∃ a : Int, c = .int .i64 a ∧ -9223372036854775808 ≤ a ∧ a ≤ 9223372036854775807 := by
  obtain ⟨a, e, _, wa⟩ := DataW.trod_int Try.underlying3 h
  refine ⟨a, by injection e, ?_⟩
  simp only [Lit.wf, IntKind.min, IntKind.max, IntKind.signed, IntKind.bits, Bool.and_eq_true, decide_eq_true_eq, if_true] at wa
  have := wa.1
  have := wa.2
  omega
theorem open_mover {v : Value} {d : DataW H} {ps : List MemPlace} (hv : Value.okWide Try.prog w .any base 23 v) (h : DataW.Trod enc Try.prog w 0 (fun _ => true) true 23 v d ps) :
    ∃ a b : Int, v = .agg #[.int .i64 a, .int .i64 b] := by
  obtain ⟨v0, v1, y0, y1, n, rfl, _, _, h0, h1⟩ := open_agg2 Try.underlying23 (by kernel_rfl) Try.cellsMover hv h
  obtain ⟨a, rfl, _⟩ := int_of h0
  obtain ⟨b, rfl, _⟩ := int_of h1
  exact ⟨a, b, rfl⟩
theorem open_look {v : Value} {d : DataW H} {ps : List MemPlace} (hv : Value.okWide Try.prog w .any base 25 v) (h : DataW.Trod enc Try.prog w 0 (fun _ => true) true 25 v d ps) :
    ∃ (a b : Int) (q : Bool), v = .agg #[.int .i64 a, .int .i64 b, .bool q] := by
  obtain ⟨v0, v1, v2, y0, y1, y2, n, rfl, _, _, h0, h1, h2⟩ := open_agg3 Try.underlying25 (by kernel_rfl) Try.cellsLook hv h
  obtain ⟨a, rfl, _⟩ := int_of h0
  obtain ⟨b, rfl, _⟩ := int_of h1
  obtain ⟨c, e, _⟩ := DataW.trod_bool Try.underlying4 h2
  injection e with e _
  subst e
  exact ⟨a, b, c, rfl⟩
theorem open_arr3 {v : Value} {d : DataW H} {ps : List MemPlace} (hv : Value.okWide Try.prog w .any base 26 v) (h : DataW.Trod enc Try.prog w 0 (fun _ => true) true 26 v d ps) :
    ∃ a b c : Int, v = .agg #[.int .i64 a, .int .i64 b, .int .i64 c] := by
  simp only [Value.okWide, Try.underlying26] at hv
  obtain ⟨cs, rfl, hcs, _⟩ := hv
  rw [Try.cellsArr3] at hcs
  obtain ⟨fuel, hf⟩ := h
  obtain ⟨xs, m, _, _, _, hxl, hel⟩ := DataW.trod_array Try.underlying26 hf
  obtain ⟨c0, c1, c2, hl⟩ : ∃ c0 c1 c2, cs = #[c0, c1, c2] := by
    obtain ⟨l⟩ := cs
    match l, hcs with
    | [c0, c1, c2], _ => exact ⟨c0, c1, c2, rfl⟩
  subst hl
  match xs, hxl with
  | [x0, x1, x2], _ =>
    have h0 := hel 0 (by omega)
    have h1 := hel 1 (by omega)
    have h2 := hel 2 (by omega)
    rw [Try.cellInt] at h0 h1 h2
    obtain ⟨a, rfl, _⟩ := int_of (show DataW.trod enc Try.prog w 0 (fun _ => true) true m 3 [c0] = some x0 from h0)
    obtain ⟨b, rfl, _⟩ := int_of (show DataW.trod enc Try.prog w 0 (fun _ => true) true m 3 [c1] = some x1 from h1)
    obtain ⟨c, rfl, _⟩ := int_of (show DataW.trod enc Try.prog w 0 (fun _ => true) true m 3 [c2] = some x2 from h2)
    exact ⟨a, b, c, rfl⟩
end
end Go.Proofs.Ytbjbkaphigolnaa.Mv

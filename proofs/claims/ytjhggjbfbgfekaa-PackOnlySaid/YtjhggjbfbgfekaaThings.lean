/- How an argument that is a slice of things is read: its cells, and what they say as data. -/
import Derived.Test.YtjhggjbfbgfekaaWrites
import Derived.Test.YtjhggjbfbgfekaaLaw
import Derived.Deep.Slices
namespace Go.Proofs.Ytjhggjbfbgfekaa
open Go.ChangeShapes Go.WideShapes Go.ChangeAt Go.RowKit Go.Deep

theorem Try.cellsItem : Try.prog.cellsOf 29 = 3 := by kernel_rfl
theorem Try.cellsInt : Try.prog.cellsOf 3 = 1 := by kernel_rfl
theorem Try.cellsString : Try.prog.cellsOf 9 = 1 := by kernel_rfl

/-- a thing, as the row reads it -/
def Thing.data {H : Type} (t : Thing) : DataW H := .agg [.lit (.int .i64 t.k), .lit (.int .i64 t.n), .lit (.string t.x.data.toList)]

section
variable {H : Type} {enc : TypeId × Value → H} {w : World} {base : Nat} {spare : Nat → Bool} {held : Bool}
theorem thing_of {n : Nat} {cs : List Value} {y : DataW H × List MemPlace} (h : DataW.trod enc Try.prog w base spare held n 29 cs = some y) :
    ∃ t : Thing, cs = [.int .i64 t.k, .int .i64 t.n, .string t.x] ∧ y.1 = t.data ∧ t.x.size ≤ maxLen ∧ (Lit.int .i64 t.n).wf = true := by
  obtain ⟨xs, m, _, hx, hlen, hxl, hf⟩ := DataW.trod_struct Try.underlying29 h
  rw [Try.cellsItem] at hlen
  match cs, hlen with
  | [c0, c1, c2], _ =>
    match xs, hxl with
    | [x0, x1, x2], _ =>
      have h0 : DataW.trod enc Try.prog w base spare held m 3 (([c0, c1, c2].drop 0).take (Try.prog.cellsOf 3)) = some x0 := hf 0 _ rfl
      have h1 : DataW.trod enc Try.prog w base spare held m 3 (([c0, c1, c2].drop 1).take (Try.prog.cellsOf 3)) = some x1 := hf 1 _ rfl
      have h2 : DataW.trod enc Try.prog w base spare held m 9 (([c0, c1, c2].drop 2).take (Try.prog.cellsOf 9)) = some x2 := hf 2 _ rfl
      rw [Try.cellsInt] at h0 h1
      rw [Try.cellsString] at h2
      obtain ⟨a, e0, d0, w0⟩ := DataW.trod_int Try.underlying3 (show DataW.trod enc Try.prog w base spare held m 3 [c0] = some x0 from h0)
      obtain ⟨b, e1, d1, w1⟩ := DataW.trod_int Try.underlying3 (show DataW.trod enc Try.prog w base spare held m 3 [c1] = some x1 from h1)
      obtain ⟨s, e2, d2, hs⟩ := DataW.trod_string Try.underlying9 (show DataW.trod enc Try.prog w base spare held m 9 [c2] = some x2 from h2)
      refine ⟨⟨a, b, s⟩, by simp_all, ?_, hs, w1⟩
      rw [hx, d0, d1, d2]
      rfl

theorem exists_fun {α : Type} [Inhabited α] {m : Nat} {Q : Nat → α → Prop} (h : ∀ i, i < m → ∃ a, Q i a) : ∃ f : Nat → α, ∀ i, i < m → Q i (f i) := by
  classical
  refine ⟨fun i => if hi : i < m then (h i hi).choose else default, fun i hi => ?_⟩
  simp only [hi, dif_pos]
  exact (h i hi).choose_spec

/-- A slice of things that came in: as a value, as cells, as data. -/
theorem open_things {v : Value} {d : DataW H} {ps : List MemPlace} (hv : Value.okWide Try.prog w .any base 22 v) (h : DataW.Trod enc Try.prog w 0 (fun _ => true) true 22 v d ps)   :
    ∃ (A : Option Addr) (c : Nat) (l : List Thing), v = .slice A l.length c ∧ Things w A l ∧ (∀ t ∈ l, t.x.size ≤ maxLen) ∧ (∀ t ∈ l, (Lit.int .i64 t.n).wf = true) ∧
      ((d = .nil ∧ l = []) ∨ ∃ rest, d = .slice (l.map Thing.data) rest) := by
  obtain ⟨a0, len0, cap0, rfl⟩ := okWide_slice Try.underlying22 hv
  obtain ⟨fuel, hf⟩ := h
  rcases open_slice Try.underlying22 hf with ⟨hcs, hx⟩ | ⟨a, len, cap, m, n, D, Pl, hcs, hb, hl, hm, hmm, hx, hi⟩
  · simp only [Value.cells, List.cons.injEq, Value.slice.injEq, and_true] at hcs
    obtain ⟨rfl, rfl, rfl⟩ := hcs
    simp only [Prod.mk.injEq] at hx
    exact ⟨none, 0, [], rfl, fun h => by simp at h, (by simp), (by simp), .inl ⟨hx.1, rfl⟩⟩
  · simp only [Value.cells, List.cons.injEq, Value.slice.injEq, and_true] at hcs
    obtain ⟨rfl, rfl, rfl⟩ := hcs
    have hmc : m = cap0 := by simpa using hmm
    subst hmc
    rw [Try.cellsItem] at hi
    have hq : ∀ i, i < len0 → ∃ t : Thing, (∀ j, j < 3 → w.cell? ((a.add (i * 3)).add j) = [Value.int .i64 t.k, .int .i64 t.n, .string t.x][j]?) ∧ D i = t.data ∧ t.x.size ≤ maxLen ∧ (Lit.int .i64 t.n).wf = true := by
      intro i hil
      obtain ⟨cs', hc, ht⟩ := hi i (by omega)
      obtain ⟨t, rfl, hd, hs, hw⟩ := thing_of ht
      exact ⟨t, (World.cells?_some hc).2.2, hd, hs, hw⟩
    have : Inhabited Thing := ⟨⟨0, 0, .empty⟩⟩
    obtain ⟨f, hfn⟩ := exists_fun hq
    simp only [Prod.mk.injEq] at hx
    refine ⟨some a, m, (List.range len0).map f, by simp, ?_, ?_, ?_, .inr ⟨(List.range (m - len0)).map fun j => D (len0 + j), ?_⟩⟩
    · intro hpos
      have hp0 : 0 < len0 := by simpa using hpos
      have h00 := (hfn 0 hp0).1 0 (by decide)
      have e0 : (a.add (0 * 3)).add 0 = a := by simp [Addr.add]
      rw [e0] at h00
      have hspot := World.cell?_spot h00
      obtain ⟨g, o, spot⟩ := a
      simp only at hspot
      subst hspot
      refine ⟨g, o, rfl, World.block_lt_of_cell? w ⟨g, o, none⟩ h00, fun j hj => ?_⟩
      have hj' : j < len0 := by simpa using hj
      have hc := (hfn j hj').1
      have c0 := hc 0 (by decide)
      have c1 := hc 1 (by decide)
      have c2 := hc 2 (by decide)
      simp only [add_plain] at c0 c1 c2
      simp only [List.getElem_map, List.getElem_range]
      exact ⟨by simpa using c0, by simpa using c1, by simpa using c2⟩
    · intro t ht
      obtain ⟨i, hi', rfl⟩ := List.mem_map.1 ht
      exact (hfn i (by simpa using hi')).2.2.1
    · intro t ht
      obtain ⟨i, hi', rfl⟩ := List.mem_map.1 ht
      exact (hfn i (by simpa using hi')).2.2.2
    · rw [hx.1, List.map_map]
      congr 1
      apply List.map_congr_left
      intro i hi'
      exact (hfn i (by simpa using hi')).2.1
end
end Go.Proofs.Ytjhggjbfbgfekaa

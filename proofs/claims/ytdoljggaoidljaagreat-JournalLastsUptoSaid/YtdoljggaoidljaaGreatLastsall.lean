import Derived.Test.YtdoljggaoidljaaGreatRows
import Derived.ProofKit
import Derived.OpenShut
import Derived.Carry
import Derived.Below
import Derived.SizedLaws
import Derived.Test.YtdoljggaoidljaaGreatHeap
import Derived.SliceStrings
import Derived.Test.YtdoljggaoidljaaGreatScr
import Derived.Test.YtdoljggaoidljaaGreatTop
import Derived.Deep.Slices
import Derived.JoinedCond
/- How a law's statement follows from its walk: a call that answers true, and that leaves all that was there as it was, meets the law's specification, whatever its arguments are. -/
namespace Go.Proofs.YtdoljggaoidljaaGreat
open Go.ChangeShapes Go.WideShapes Go.ChangeAt Go.RowKit

theorem Tryz.laidOut : laidOutB Tryz.prog = true := by kernel_rfl
theorem Tryz.own : ownKnob Tryz.prog.godebug = none := by kernel_rfl

theorem args_stay {H : Type} {enc : TypeId × Value → H} {P : Program} (hl : laidOutB P = true) {W W' : World} (hb : Below W.heap.size W W') :
    ∀ {ts : List TypeId} {vs : List Value} {ds : List (DataW H)} {ps : List MemPlace}, (∀ t ∈ ts, P.readableRec t = true ∧ t < P.types.size) →
      DataW.TrodAll enc P W 0 (fun _ => true) true ts vs ds ps → (∀ x ∈ ps, x.block < W.heap.size) → DataW.TrodAll enc P W' 0 (fun b => decide (b < W.heap.size)) true ts vs ds ps
  | [], _, _, _, _, h, _ => by
    obtain ⟨rfl, rfl, rfl⟩ := trodAll_nil h
    exact trodAll_mk0
  | t :: ts, _, _, _, hr, h, hlt => by
    obtain ⟨v, vs, d, ds, p, ps, rfl, rfl, rfl, h0, r0⟩ := trodAll_cons h
    exact trodAll_cons_mk (Below.trod hl (hr t (by simp)).1 (hr t (by simp)).2 h0 hb (fun x hx => hlt x (by simp [hx])))
      (args_stay hl hb (fun u hu => hr u (by simp [hu])) r0 (fun x hx => hlt x (by simp [hx])))

/-- The law's specification is met. -/
theorem law_post {H : Type} {enc : TypeId × Value → H} {f : Func} {s : ChangeSpec} {W W' : World} {args : Array Value} {ds gs : List (DataW H)} {before : List MemPlace}
    (hW : DataW.Whole enc Tryz.prog f.params.toList s.vars false W args.toList ds gs before) (hv : s.vars = []) (hres : f.resultTypes = #[4])
    (hts : ∀ t ∈ f.params.toList, Tryz.prog.readableRec t = true ∧ t < Tryz.prog.types.size)
    (hfn : (s.fn H ds).results = [.lit (.bool true)]) (hargs : (s.fn H ds).args = ds) (hvars : (s.fn H ds).vars = []) (hb : Below W.heap.size W W') :
    ∃ v, Ending.returned (.bool true) = .returned v ∧ s.post enc Tryz.prog f false true false false W args v W' := by
  have hlt : ∀ p ∈ before, p.block < W.heap.size := fun p hp => hW.lt p hp
  have hW' := hW
  obtain ⟨p, q, hA, hV, rfl, hfz, hnd⟩ := hW
  rw [hv] at hV
  obtain ⟨rfl, rfl⟩ := trodVars_none hV
  refine ⟨_, rfl, ds, [], _, [], p, [], hW', ?_, ?_, ?_, hb.frame _, fun h => by cases h⟩
  · rw [List.append_nil, hfn, hres]
    exact trodAll_cons_mk (shut_bool Tryz.underlying4 _) trodAll_mk0
  · rw [List.append_nil, hargs]
    exact args_stay Tryz.laidOut hb hts hA (fun x hx => hlt x (by simp [hx]))
  · rw [List.append_nil, hv, hvars]
    rfl
end Go.Proofs.YtdoljggaoidljaaGreat
/- How arguments that are slices of texts are read: their cells, and what they say as data. -/
namespace Go.Proofs.YtdoljggaoidljaaGreat
open Go.ChangeShapes Go.WideShapes Go.ChangeAt Go.RowKit

theorem bytes_string : Tryz.prog.bytesOf 9 = 16 := by kernel_rfl
theorem Tryz.cellString : Tryz.prog.cellsOf 9 = 1 := by kernel_rfl

theorem rd_of {w : World} {a : Addr} {xs : List Value} (h : ∀ i u, xs[i]? = some u → w.cell? (a.add i) = some u) : Rd w (some a) xs := fun h0 => by
  have h00 := h 0 xs[0] (List.getElem?_eq_getElem h0)
  have e0 : a.add 0 = a := by simp [Addr.add]
  rw [e0] at h00
  have hs := World.cell?_spot h00
  obtain ⟨g, o, spot⟩ := a
  simp only at hs
  subst hs
  exact ⟨g, o, rfl, World.block_lt_of_cell? w ⟨g, o, none⟩ h00, fun j u hu => by rw [← add_plain]; exact h j u hu⟩

section
variable {H : Type} {enc : TypeId × Value → H} {w : World} {base : Nat}
set_option maxRecDepth 100000 in
theorem open_texts {v : Value} {d : DataW H} {ps : List MemPlace} (hv : Value.okWide Tryz.prog w .any base 31 v) (h : DataW.Trod enc Tryz.prog w 0 (fun _ => true) true 31 v d ps) :
    ∃ (A : Option Addr) (c : Nat) (l : List ByteArray), v = .slice A l.length c ∧ Rd w A (l.map Value.string) ∧ ((d = .nil ∧ l = []) ∨ ∃ rest, d = .slice (strs l) rest) ∧ l.length ≤ c := by
  obtain ⟨a0, len0, cap0, rfl⟩ := okWide_slice Tryz.underlying31 hv
  obtain ⟨fuel, hf⟩ := h
  rcases open_strings Tryz.underlying31 Tryz.underlying9 Tryz.cellString hf with ⟨hcs, hx⟩ | ⟨a, len, cap, zs, hcs, _, hl, hm, hz, hx, hcell, _⟩
  · simp only [Value.cells, List.cons.injEq, Value.slice.injEq, and_true] at hcs
    obtain ⟨rfl, rfl, rfl⟩ := hcs
    simp only [Prod.mk.injEq] at hx
    exact ⟨none, 0, [], rfl, fun h => by simp at h, .inl ⟨hx.1, rfl⟩, Nat.le_refl _⟩
  · simp only [Value.cells, List.cons.injEq, Value.slice.injEq, and_true] at hcs
    obtain ⟨rfl, rfl, rfl⟩ := hcs
    have hzc : zs.length = cap0 := by simpa using hz
    simp only [Prod.mk.injEq] at hx
    have hlen : (zs.take len0).length = len0 := by rw [List.length_take]; omega
    refine ⟨some a, cap0, zs.take len0, by rw [hlen], rd_of fun i u hu => ?_, .inr ⟨_, hx.1⟩, by rw [hlen]; omega⟩
    have hi : i < len0 := by
      have := (List.getElem?_eq_some_iff.1 hu).1
      rw [List.length_map, hlen] at this
      exact this
    rw [hcell i (by omega)]
    rw [List.getElem?_map, List.getElem?_take, if_pos hi, List.getElem?_eq_getElem (by omega)] at hu
    simp only [Option.map_some, Option.some.injEq] at hu
    rw [← hu, List.getD_eq_getElem?_getD, List.getElem?_eq_getElem (by omega)]
    rfl
end
end Go.Proofs.YtdoljggaoidljaaGreat
/- How an argument that is a script is read: its cells, its cuts, and how much there is where all is of bulk at most 1048576. -/
namespace Go.Proofs.YtdoljggaoidljaaGreat
open Go.ChangeShapes Go.WideShapes Go.ChangeAt Go.RowKit Go.Deep

theorem Tryz.cellsOp8 : Tryz.prog.cellsOf 27 = 4 := by kernel_rfl
theorem Tryz.cellsCuts : Tryz.prog.cellsOf 25 = 1 := by kernel_rfl
theorem Tryz.cellsCut : Tryz.prog.cellsOf 29 = 2 := by kernel_rfl
theorem Tryz.cellsInt8 : Tryz.prog.cellsOf 3 = 1 := by kernel_rfl
theorem Tryz.cellsText8 : Tryz.prog.cellsOf 9 = 1 := by kernel_rfl
instance : Inhabited Oj := ⟨⟨0, 0, ⟨#[]⟩, none, 0, []⟩⟩

section
variable {H : Type} {enc : TypeId × Value → H} {w : World} {base : Nat}
theorem int_at {n : Nat} {c : Value} {y : DataW H × List MemPlace} (h : DataW.trod enc Tryz.prog w 0 (fun _ => true) true n 3 [c] = some y) : ∃ a : Int, c = .int .i64 a ∧ (ki a).wf = true := by
  obtain ⟨a, e, _, wa⟩ := DataW.trod_int Tryz.underlying3 h
  have hc : c = .int .i64 a := by injection e
  exact ⟨a, hc, wa⟩
theorem exists_fn {α : Type} [Inhabited α] {m : Nat} {Q : Nat → α → Prop} (h : ∀ i, i < m → ∃ a, Q i a) : ∃ f : Nat → α, ∀ i, i < m → Q i (f i) := by
  classical
  refine ⟨fun i => if hi : i < m then (h i hi).choose else default, fun i hi => ?_⟩
  simp only [hi, dif_pos]
  exact (h i hi).choose_spec
set_option maxRecDepth 100000 in
theorem cut_of {n : Nat} {cs : List Value} {y : DataW H × List MemPlace} (h : DataW.trod enc Tryz.prog w 0 (fun _ => true) true n 29 cs = some y) : ∃ a p : Int, cs = [.int .i64 a, .int .i64 p] ∧ (ki a).wf = true ∧ (ki p).wf = true := by
  obtain ⟨xs, m, _, hx, hlen, hxl, hf⟩ := DataW.trod_struct Tryz.underlying29 h
  rw [Tryz.cellsCut] at hlen
  match cs, hlen with
  | [c0, c1], _ =>
    match xs, hxl with
    | [x0, x1], _ =>
      have h0 : DataW.trod enc Tryz.prog w 0 (fun _ => true) true m 3 (([c0, c1].drop 0).take (Tryz.prog.cellsOf 3)) = some x0 := hf 0 _ rfl
      have h1 : DataW.trod enc Tryz.prog w 0 (fun _ => true) true m 3 (([c0, c1].drop 1).take (Tryz.prog.cellsOf 3)) = some x1 := hf 1 _ rfl
      rw [Tryz.cellsInt8] at h0 h1
      obtain ⟨a, rfl, wa⟩ := int_at (show DataW.trod enc Tryz.prog w 0 (fun _ => true) true m 3 [c0] = some x0 from h0)
      obtain ⟨p, rfl, wp⟩ := int_at (show DataW.trod enc Tryz.prog w 0 (fun _ => true) true m 3 [c1] = some x1 from h1)
      exact ⟨a, p, rfl, wa, wp⟩
theorem cutCells_get : ∀ (l : List (Int × Int)) (j : Nat) (u : Value), (cutCells l)[j]? = some u → ∃ i k, j = i * 2 + k ∧ k < 2 ∧ ∃ h : i < l.length, [Value.int .i64 l[i].1, .int .i64 l[i].2][k]? = some u
  | [], j, u, h => by simp [cutCells] at h
  | c :: r, 0, u, h => ⟨0, 0, rfl, by decide, by simp, by simpa [cutCells] using h⟩
  | c :: r, 1, u, h => ⟨0, 1, rfl, by decide, by simp, by simpa [cutCells] using h⟩
  | c :: r, j + 2, u, h => by
    obtain ⟨i, k, e, hk, hi, hu⟩ := cutCells_get r j u (by simpa [cutCells] using h)
    exact ⟨i + 1, k, by omega, hk, by simpa using hi, by simpa using hu⟩
set_option maxRecDepth 100000 in
theorem cuts_at {n : Nat} {c0 : Value} {y : DataW H × List MemPlace} (h : DataW.trod enc Tryz.prog w 0 (fun _ => true) true n 25 [c0] = some y) :
    ∃ (A : Option Addr) (c : Nat) (l : List (Int × Int)), c0 = .slice A l.length c ∧ Rd w A (cutCells l) ∧ (l.length ≤ c ∧ c ≤ maxLen) ∧ (∀ x ∈ l, (ki x.1).wf = true ∧ (ki x.2).wf = true) ∧ ((y.1 = .nil ∧ l = []) ∨ ∃ es rest, y.1 = .slice es rest ∧ es.length = l.length) := by
  rcases open_slice Tryz.underlying25 h with ⟨hcs, hx⟩ | ⟨a, len, cap, m, n', D, Pl, hcs, hb, hl, hm, hmm, hx, hi⟩
  · simp only [List.cons.injEq, and_true] at hcs
    exact ⟨none, 0, [], hcs, fun h => by simp [cutCells] at h, ⟨Nat.zero_le _, Nat.zero_le _⟩, fun _ h => (by cases h), .inl ⟨by rw [hx], rfl⟩⟩
  · simp only [List.cons.injEq, and_true] at hcs
    have hmc : m = cap := by simpa using hmm
    subst hmc
    rw [Tryz.cellsCut] at hi
    have hq : ∀ i, i < len → ∃ x : Int × Int, (∀ j, j < 2 → w.cell? ((a.add (i * 2)).add j) = [Value.int .i64 x.1, .int .i64 x.2][j]?) ∧ (ki x.1).wf = true ∧ (ki x.2).wf = true := by
      intro i hil
      obtain ⟨cs', hc', ht'⟩ := hi i (by omega)
      obtain ⟨x, p, rfl, w1, w2⟩ := cut_of ht'
      exact ⟨(x, p), (World.cells?_some hc').2.2, w1, w2⟩
    obtain ⟨f, hfn⟩ := exists_fn hq
    refine ⟨some a, m, (List.range len).map f, by simp [hcs], rd_of fun j u hu => ?_, ⟨by simpa using hl, hm⟩, fun x hx => ?_, .inr ⟨_, _, by rw [hx], by simp⟩⟩
    · obtain ⟨i, k, rfl, hk, hil, hu⟩ := cutCells_get _ j u hu
      have hil' : i < len := by simpa using hil
      have := (hfn i hil').1 k hk
      rw [← Go.Deep.add_add, this]
      simpa using hu
    · obtain ⟨i, hi', rfl⟩ := List.mem_map.1 hx
      exact (hfn i (by simpa using hi')).2
def Oj.data {H : Type} (p : Oj) (d : DataW H) : Prop := ∃ x0 x1 x2 dc, d = .agg [x0, x1, x2, dc] ∧ ((dc = .nil ∧ p.cuts = []) ∨ ∃ es rest, dc = .slice es rest ∧ es.length = p.cuts.length)
/-- an operation that came in, but for how many cuts it has -/
structure Oj.fine (p : Oj) (w : World) : Prop where
  rd : Rd w p.C (cutCells p.cuts)
  wf : ∀ x ∈ p.cuts, (ki x.1).wf = true ∧ (ki x.2).wf = true
def Oj.cells (p : Oj) : List Value := [.int .i64 p.kind, .int .i64 p.rk, .string p.x, .slice p.C p.cuts.length p.cc]
set_option maxRecDepth 100000 in
theorem op_of {n : Nat} {cs : List Value} {y : DataW H × List MemPlace} (h : DataW.trod enc Tryz.prog w 0 (fun _ => true) true n 27 cs = some y) : ∃ p : Oj, cs = p.cells ∧ p.data y.1 ∧ p.fine w := by
  obtain ⟨xs, m, _, hx, hlen, hxl, hf⟩ := DataW.trod_struct Tryz.underlying27 h
  rw [Tryz.cellsOp8] at hlen
  match cs, hlen with
  | [c0, c1, c2, c3], _ =>
    match xs, hxl with
    | [x0, x1, x2, x3], _ =>
      have h0 : DataW.trod enc Tryz.prog w 0 (fun _ => true) true m 3 (([c0, c1, c2, c3].drop 0).take (Tryz.prog.cellsOf 3)) = some x0 := hf 0 _ rfl
      have h1 : DataW.trod enc Tryz.prog w 0 (fun _ => true) true m 3 (([c0, c1, c2, c3].drop 1).take (Tryz.prog.cellsOf 3)) = some x1 := hf 1 _ rfl
      have h2 : DataW.trod enc Tryz.prog w 0 (fun _ => true) true m 9 (([c0, c1, c2, c3].drop 2).take (Tryz.prog.cellsOf 9)) = some x2 := hf 2 _ rfl
      have h3 : DataW.trod enc Tryz.prog w 0 (fun _ => true) true m 25 (([c0, c1, c2, c3].drop 3).take (Tryz.prog.cellsOf 25)) = some x3 := hf 3 _ rfl
      rw [Tryz.cellsInt8] at h0 h1
      rw [Tryz.cellsText8] at h2
      rw [Tryz.cellsCuts] at h3
      obtain ⟨a0, rfl, w0⟩ := int_at (show DataW.trod enc Tryz.prog w 0 (fun _ => true) true m 3 [c0] = some x0 from h0)
      obtain ⟨a1, rfl, w1⟩ := int_at (show DataW.trod enc Tryz.prog w 0 (fun _ => true) true m 3 [c1] = some x1 from h1)
      obtain ⟨s, e2, d2, _⟩ := DataW.trod_string Tryz.underlying9 (show DataW.trod enc Tryz.prog w 0 (fun _ => true) true m 9 [c2] = some x2 from h2)
      have e2' : c2 = .string s := by injection e2
      subst e2'
      obtain ⟨A2, cc, l2, rfl, r2, k2, wf2, d3⟩ := cuts_at (show DataW.trod enc Tryz.prog w 0 (fun _ => true) true m 25 [c3] = some x3 from h3)
      exact ⟨⟨a0, a1, s, A2, cc, l2⟩, rfl, ⟨x0.1, x1.1, x2.1, x3.1, by rw [hx]; rfl, d3⟩, ⟨r2, wf2⟩⟩
theorem opCells_get : ∀ (l : List Oj) (j : Nat) (u : Value), (opCells l)[j]? = some u → ∃ i k, j = i * 4 + k ∧ k < 4 ∧ ∃ h : i < l.length, (l[i].cells)[k]? = some u
  | [], j, u, h => by simp [opCells] at h
  | o :: r, 0, u, h => ⟨0, 0, rfl, by decide, by simp, by simpa [opCells, Oj.cells] using h⟩
  | o :: r, 1, u, h => ⟨0, 1, rfl, by decide, by simp, by simpa [opCells, Oj.cells] using h⟩
  | o :: r, 2, u, h => ⟨0, 2, rfl, by decide, by simp, by simpa [opCells, Oj.cells] using h⟩
  | o :: r, 3, u, h => ⟨0, 3, rfl, by decide, by simp, by simpa [opCells, Oj.cells] using h⟩
  | o :: r, j + 4, u, h => by
    obtain ⟨i, k, e, hk, hi, hu⟩ := opCells_get r j u (by simpa [opCells] using h)
    exact ⟨i + 1, k, by omega, hk, by simpa using hi, by simpa using hu⟩
set_option maxRecDepth 100000 in
/-- A script that came in: as a value, as cells, as data. -/
theorem open_script {v : Value} {d : DataW H} {ps : List MemPlace} (hv : Value.okWide Tryz.prog w .any base 22 v) (h : DataW.Trod enc Tryz.prog w 0 (fun _ => true) true 22 v d ps) :
    ∃ (A : Option Addr) (c : Nat) (l : List Oj), v = .slice A l.length c ∧ Rd w A (opCells l) ∧ (∀ p ∈ l, p.fine w) ∧
      ((d = .nil ∧ l = []) ∨ ∃ es rest, d = .slice es rest ∧ es.length = l.length ∧ ∀ i (hi : i < l.length), ∃ x, es[i]? = some x ∧ l[i].data x) := by
  obtain ⟨a0, len0, cap0, rfl⟩ := okWide_slice Tryz.underlying22 hv
  obtain ⟨fuel, hf⟩ := h
  rcases open_slice Tryz.underlying22 hf with ⟨hcs, hx⟩ | ⟨a, len, cap, m, n, D, Pl, hcs, hb, hl, hm, hmm, hx, hi⟩
  · simp only [Value.cells, List.cons.injEq, Value.slice.injEq, and_true] at hcs
    obtain ⟨rfl, rfl, rfl⟩ := hcs
    simp only [Prod.mk.injEq] at hx
    exact ⟨none, 0, [], rfl, fun h => by simp [opCells] at h, by simp, .inl ⟨hx.1, rfl⟩⟩
  · simp only [Value.cells, List.cons.injEq, Value.slice.injEq, and_true] at hcs
    obtain ⟨rfl, rfl, rfl⟩ := hcs
    have hmc : m = cap0 := by simpa using hmm
    subst hmc
    rw [Tryz.cellsOp8] at hi
    have hq : ∀ i, i < len0 → ∃ p : Oj, (∀ j, j < 4 → w.cell? ((a.add (i * 4)).add j) = p.cells[j]?) ∧ p.data (D i) ∧ p.fine w := by
      intro i hil
      obtain ⟨cs', hc, ht⟩ := hi i (by omega)
      obtain ⟨p, rfl, hd, hs⟩ := op_of ht
      exact ⟨p, (World.cells?_some hc).2.2, hd, hs⟩
    obtain ⟨f, hfn⟩ := exists_fn hq
    simp only [Prod.mk.injEq] at hx
    refine ⟨some a, m, (List.range len0).map f, by simp, rd_of fun j u hu => ?_, ?_, .inr ⟨_, _, hx.1, by simp, fun i hi' => ?_⟩⟩
    · obtain ⟨i, k, rfl, hk, hil, hu⟩ := opCells_get _ j u hu
      have hil' : i < len0 := by simpa using hil
      have := (hfn i hil').1 k hk
      rw [← Go.Deep.add_add, this]
      simpa using hu
    · intro t ht
      obtain ⟨i, hi', rfl⟩ := List.mem_map.1 ht
      exact (hfn i (by simpa using hi')).2.2
    · have hil : i < len0 := by simpa using hi'
      refine ⟨D i, by simp [hil], ?_⟩
      simp only [List.getElem_map, List.getElem_range]
      exact (hfn i hil).2.1
end

theorem bulk_pos {H : Type} : ∀ d : DataW H, 1 ≤ Rows.uptoBulk d
  | .lit l => by cases l <;> simp [Rows.uptoBulk]
  | .nil => by simp [Rows.uptoBulk]
  | .ptr d => by simp [Rows.uptoBulk]
  | .slice a b => by simp [Rows.uptoBulk]
  | .agg l => by simp [Rows.uptoBulk]
  | .iface _ d => by simp [Rows.uptoBulk]
  | .map e => by simp [Rows.uptoBulk]
  | .held _ => by simp [Rows.uptoBulk]
theorem bulk_len {H : Type} : ∀ es : List (DataW H), es.length ≤ Rows.uptoBulkAll es
  | [] => by simp
  | d :: r => by
    have := bulk_pos d
    have := bulk_len r
    simp only [List.length_cons, Rows.uptoBulkAll]
    omega
theorem bulk_at {H : Type} : ∀ (es : List (DataW H)) (i : Nat) (x : DataW H), es[i]? = some x → Rows.uptoBulk x ≤ Rows.uptoBulkAll es
  | [], _, _, h => by simp at h
  | d :: r, 0, x, h => by
    simp only [List.getElem?_cons_zero, Option.some.injEq] at h
    subst h
    simp [Rows.uptoBulkAll]
  | d :: r, i + 1, x, h => by
    have := bulk_at r i x (by simpa using h)
    simp only [Rows.uptoBulkAll]
    omega
theorem small_op {H : Type} {p : Oj} {d : DataW H} (h : p.data d) (hk : Rows.uptoBulk d ≤ 1048576) : p.cuts.length ≤ 1048576 := by
  obtain ⟨x0, x1, x2, dc, rfl, h2⟩ := h
  simp only [Rows.uptoBulk, Rows.uptoBulkAll] at hk
  rcases h2 with ⟨_, e⟩ | ⟨es, rest, rfl, he⟩
  · rw [e]; simp
  · have := bulk_len es
    simp only [Rows.uptoBulk] at hk
    omega
theorem small_script {H : Type} {d : DataW H} {l : List Oj} (hk : Rows.uptoSmall H [d] = true) (hd : (d = .nil ∧ l = []) ∨ ∃ es rest, d = .slice es rest ∧ es.length = l.length ∧ ∀ i (hi : i < l.length), ∃ x, es[i]? = some x ∧ l[i].data x) : l.length ≤ 1048576 ∧ ∀ p ∈ l, p.cuts.length ≤ 1048576 := by
  have h : Rows.uptoBulkAll [d] ≤ 1048576 := of_decide_eq_true hk
  rcases hd with ⟨_, rfl⟩ | ⟨es, rest, rfl, hl, hx⟩
  · simp
  · simp only [Rows.uptoBulkAll, Rows.uptoBulk] at h
    have hlen := bulk_len es
    refine ⟨by omega, fun p hp => ?_⟩
    obtain ⟨i, hi, rfl⟩ := List.mem_iff_getElem.1 hp
    obtain ⟨x, hxi, hdx⟩ := hx i hi
    have := bulk_at es i x hxi
    exact small_op hdx (by omega)
theorem Oj.fine.okk {p : Oj} {w : World} (h : p.fine w) (hl : p.cuts.length ≤ 1048576) : p.ok w w.heap.size := ⟨h.rd, fun h0 k hk => by
  obtain ⟨g, o, e, hg, _⟩ := h.rd (by rw [cutCells_length]; omega)
  rw [e] at hk
  have e2 : g = k := by injection hk
  omega, by omega, h.wf⟩

set_option maxRecDepth 100000 in
set_option maxHeartbeats 4000000 in
theorem lasts_walk {w : World} {A : Option Addr} {c : Nat} {l : List Oj} (hl : Rd w A (opCells l)) (hok : ∀ o ∈ l, o.ok w w.heap.size) (hn : l.length ≤ 900000000) :
    Calls Tryz.prog 3 #[.slice A l.length c] w fun e w' => e = .returned (.bool true) ∧ Below w.heap.size w w' := by
  have KL := lives_any w
  have KP := fun W (f : Fr (fun k => w.heap.size ≤ k) w W) => play_any (w := W) (A := A) (c := c) (l := l) (fun h0 => hl.fr f (fun k hk => by
    obtain ⟨g, o, e, hg, _⟩ := hl h0
    rw [e] at hk
    have e2 : g = k := by injection hk
    omega) h0) (fun o ho => by
      have h := (hok o ho).fr f
      exact ⟨h.rd, fun h0 k hk => Nat.lt_of_lt_of_le (h.lo h0 k hk) f.size, h.len, h.wf⟩) hn
  have HKP := Lib.hid KP
  clear KP hl hok
  go_enter Tryz.func3, Tryz.ntmps3
  go_wp2_with fail
  refine KL.mono ?_
  rintro e w1 ⟨rfl, f1⟩
  have KP := HKP.out w1 f1
  have HF1 := Lib.hid f1
  clear KL HKP f1
  go_wp2_with fail
  refine KP.mono ?_
  rintro e w2 ⟨rfl, f2⟩
  have HF2 := Lib.hid (HF1.out.trans f2 fun _ _ h => h.elim)
  clear KP HF1 f2
  go_wp2_with fail
  go_ret
  exact ⟨rfl, HF2.out.toBelow⟩
end Go.Proofs.YtdoljggaoidljaaGreat
/- JournalLasts (P8.1 to P8.3): wherever the power goes, in whichever byte of an appending, a turning to another page or an opening, what is found are the last records up to the last one that was answered, or the one that was under way, none altered, none out of order, and the last safety state up to there. For every script which with all its cuts and texts is of bulk at most 1048576 (the document promises nothing beyond 2^31 - 1 items). -/
namespace Go.Proofs.YtdoljggaoidljaaGreat.journalLasts
open Go.ChangeShapes Go.WideShapes Go.ChangeAt Go.RowKit

set_option maxRecDepth 100000 in
theorem contract (H : Type) (enc : TypeId × Value → H) (W : World) (base : Nat) (args : Array Value) (ds gs : List (DataW H)) (before : List MemPlace)
    (hval : ∀ (j : Nat) t v, Tryz.f3.params[j]? = some t → args[j]? = some v → Value.okWide Tryz.prog W .any base t v)
    (hW : DataW.Whole enc Tryz.prog Tryz.f3.params.toList Rows.journalLastsSpec.vars false W args.toList ds gs before) (hk : Rows.uptoSmall H (ds ++ gs) = true) :
    Calls Tryz.prog 3 args W fun e W' => ∃ v, e = .returned v ∧ Rows.journalLastsSpec.post enc Tryz.prog Tryz.f3 false true false false W args v W' := by
  have hW' := hW
  obtain ⟨p, q, hA0, hV, rfl, hfz, hnd⟩ := hW
  have hA : DataW.TrodAll enc Tryz.prog W 0 (fun _ => true) true Tryz.f3.params.toList args.toList ds p := hA0
  rw [Tryz.params3] at hA hval
  obtain ⟨v0, d0, hargs, rfl, h0⟩ := trodAll_one hA
  obtain rfl : args = #[v0] := hargs
  obtain ⟨rfl, rfl⟩ := trodVars_none hV
  obtain ⟨A0, c0, l0, rfl, hl0, hf0, hd0⟩ := open_script (hval 0 22 v0 rfl rfl) h0
  rw [List.append_nil] at hk
  obtain ⟨z0, n0⟩ := small_script hk hd0
  refine (lasts_walk (c := c0) hl0 (fun o ho => (hf0 o ho).okk (n0 o ho)) (by omega)).mono fun e W' ⟨he, hb⟩ => ?_
  subst he
  exact law_post hW' rfl (by kernel_rfl) (by rw [Tryz.params3]; exact of_decide_eq_true (by kernel_rfl)) rfl rfl rfl hb

set_option maxRecDepth 100000 in
theorem lifted (os : Os) (started : os.Started) (H : Type) (enc : TypeId × Value → H) (F : Stop.Interp) :
    ReturnsInHanded {} Tryz.checked os 3 .any ((Rows.OpenSpec.upto Rows.journalLastsSpec).pre6 enc Tryz.prog Tryz.f3 Rows.journalLastsUptoRow.domain false) (((Rows.OpenSpec.upto Rows.journalLastsSpec).at F).post enc Tryz.prog Tryz.f3 false true false false) := by
  refine returnsInHanded_of_cond (C := Tryz.checked) (s := Rows.OpenSpec.upto Rows.journalLastsSpec) (k := Rows.uptoSmall) rfl Tryz.own started (by kernel_rfl) Tryz.func3
    (OpenSpec.witness (enc := enc) (C := Tryz.checked) (s := Rows.OpenSpec.upto Rows.journalLastsSpec) (k := Rows.uptoSmall) rfl false ⟨#[], #[.slice none 0 0], []⟩ 8 (by kernel_rfl) (by kernel_rfl) (by kernel_rfl)
      (x := ([.nil], [], [])) (by kernel_rfl) rfl (by kernel_rfl)) ?_
  intro W base args ds gs before hval hW _ hk _
  exact contract H enc W base args ds gs before hval hW hk

theorem proved : Rows.JournalLastsUptoSaid :=
  OpenClaim.holds_of_cond 3 Tryz.f3 rfl rfl rfl rfl rfl rfl rfl ⟨rfl, rfl, rfl, rfl, rfl⟩ rfl rfl rfl rfl rfl (by kernel_rfl) Tryz.func3 (by kernel_rfl)
    (of_decide_eq_true (by kernel_rfl)) (by unfold Func.isWrapper; first | (rw [if_pos (by decide +kernel)]; kernel_rfl) | (rw [if_neg (by decide +kernel)]; exact ⟨rfl, rfl⟩))
    (fun os started H enc _ F => lifted os started H enc F)
end Go.Proofs.YtdoljggaoidljaaGreat.journalLasts

/- How an argument that is a row of calls is read: its cells, its parts and cuts, and how much there is where all is of bulk at most 1048576. -/
import Derived.Test.YtafhkhkpknipmaaTold
import Derived.Test.YtafhkhkpknipmaaInts
import Derived.Deep.Slices
namespace Go.Proofs.Ytafhkhkpknipmaa
open Go.ChangeShapes Go.WideShapes Go.ChangeAt Go.RowKit Go.Deep

theorem Try.cellsOp : Try.prog.cellsOf 31 = 6 := by kernel_rfl
theorem Try.cellsTexts : Try.prog.cellsOf 28 = 1 := by kernel_rfl
theorem Try.cellsCuts : Try.prog.cellsOf 29 = 1 := by kernel_rfl
theorem Try.cellsCut : Try.prog.cellsOf 50 = 2 := by kernel_rfl
theorem Try.cellsText : Try.prog.cellsOf 9 = 1 := by kernel_rfl

/-- a call of the row, as it lies -/
structure Opr where
  kind : Int
  page : Int
  pos : Int
  n : Int
  A : Option Addr
  c : Nat
  xs : List ByteArray
  A2 : Option Addr
  c2 : Nat
  l : List (Int × Int)
instance : Inhabited Opr := ⟨⟨0, 0, 0, 0, none, 0, [], none, 0, []⟩⟩
def Opr.cells (p : Opr) : List Value := [.int .i64 p.kind, .int .i64 p.page, .int .i64 p.pos, .int .i64 p.n, .slice p.A p.xs.length p.c, .slice p.A2 p.l.length p.c2]
structure Opr.ok (w : World) (p : Opr) : Prop where
  rx : Rd w p.A (p.xs.map Value.string)
  cx : p.xs.length ≤ p.c ∧ p.c ≤ maxLen
  rl : Rd w p.A2 (cutCells p.l)
  cl : p.l.length ≤ p.c2 ∧ p.c2 ≤ maxLen
  wf : ∀ x ∈ p.l, (ki x.1).wf = true ∧ (ki x.2).wf = true
  ints : (ki p.kind).wf = true ∧ (ki p.page).wf = true ∧ (ki p.pos).wf = true ∧ (ki p.n).wf = true
def Opr.data {H : Type} (p : Opr) (d : DataW H) : Prop := ∃ x0 x1 x2 x3 dp dc, d = .agg [x0, x1, x2, x3, dp, dc] ∧ ((dp = .nil ∧ p.xs = []) ∨ ∃ rest, dp = .slice (strs p.xs) rest) ∧ ((dc = .nil ∧ p.l = []) ∨ ∃ es rest, dc = .slice es rest ∧ es.length = p.l.length)
/-- A row of calls that lies at A. -/
def Script (w : World) (A : Option Addr) (ps : List Opr) : Prop :=
  (0 < ps.length → ∃ g o, A = some ⟨g, o, none⟩ ∧ g < w.heap.size ∧ ∀ j (hj : j < ps.length), ∀ k u, (ps[j].cells)[k]? = some u → w.cell? ⟨g, o + j * 6 + k, none⟩ = some u) ∧ ∀ p ∈ ps, p.ok w

section
variable {H : Type} {enc : TypeId × Value → H} {w : World} {base : Nat}
theorem int_at {n : Nat} {c : Value} {y : DataW H × List MemPlace} (h : DataW.trod enc Try.prog w 0 (fun _ => true) true n 3 [c] = some y) : ∃ a : Int, c = .int .i64 a ∧ (ki a).wf = true := by
  obtain ⟨a, e, _, wa⟩ := DataW.trod_int Try.underlying3 h
  have hc : c = .int .i64 a := by injection e
  exact ⟨a, hc, wa⟩
theorem exists_fn {α : Type} [Inhabited α] {m : Nat} {Q : Nat → α → Prop} (h : ∀ i, i < m → ∃ a, Q i a) : ∃ f : Nat → α, ∀ i, i < m → Q i (f i) := by
  classical
  refine ⟨fun i => if hi : i < m then (h i hi).choose else default, fun i hi => ?_⟩
  simp only [hi, dif_pos]
  exact (h i hi).choose_spec
theorem cut_of {n : Nat} {cs : List Value} {y : DataW H × List MemPlace} (h : DataW.trod enc Try.prog w 0 (fun _ => true) true n 50 cs = some y) : ∃ a p : Int, cs = [.int .i64 a, .int .i64 p] ∧ (ki a).wf = true ∧ (ki p).wf = true := by
  obtain ⟨xs, m, _, hx, hlen, hxl, hf⟩ := DataW.trod_struct Try.underlying50 h
  rw [Try.cellsCut] at hlen
  match cs, hlen with
  | [c0, c1], _ =>
    match xs, hxl with
    | [x0, x1], _ =>
      have h0 : DataW.trod enc Try.prog w 0 (fun _ => true) true m 3 (([c0, c1].drop 0).take (Try.prog.cellsOf 3)) = some x0 := hf 0 _ rfl
      have h1 : DataW.trod enc Try.prog w 0 (fun _ => true) true m 3 (([c0, c1].drop 1).take (Try.prog.cellsOf 3)) = some x1 := hf 1 _ rfl
      rw [Try.cellInt] at h0 h1
      obtain ⟨a, rfl, wa⟩ := int_at (show DataW.trod enc Try.prog w 0 (fun _ => true) true m 3 [c0] = some x0 from h0)
      obtain ⟨p, rfl, wp⟩ := int_at (show DataW.trod enc Try.prog w 0 (fun _ => true) true m 3 [c1] = some x1 from h1)
      exact ⟨a, p, rfl, wa, wp⟩
theorem cutCells_get : ∀ (l : List (Int × Int)) (j : Nat) (u : Value), (cutCells l)[j]? = some u → ∃ i k, j = i * 2 + k ∧ k < 2 ∧ ∃ h : i < l.length, [Value.int .i64 l[i].1, .int .i64 l[i].2][k]? = some u
  | [], j, u, h => by simp [cutCells] at h
  | c :: r, 0, u, h => ⟨0, 0, rfl, by decide, by simp, by simpa [cutCells] using h⟩
  | c :: r, 1, u, h => ⟨0, 1, rfl, by decide, by simp, by simpa [cutCells] using h⟩
  | c :: r, j + 2, u, h => by
    obtain ⟨i, k, e, hk, hi, hu⟩ := cutCells_get r j u (by simpa [cutCells] using h)
    exact ⟨i + 1, k, by omega, hk, by simpa using hi, by simpa using hu⟩
theorem cuts_at {n : Nat} {c0 : Value} {y : DataW H × List MemPlace} (h : DataW.trod enc Try.prog w 0 (fun _ => true) true n 29 [c0] = some y) :
    ∃ (A : Option Addr) (c : Nat) (l : List (Int × Int)), c0 = .slice A l.length c ∧ Rd w A (cutCells l) ∧ (l.length ≤ c ∧ c ≤ maxLen) ∧ (∀ x ∈ l, (ki x.1).wf = true ∧ (ki x.2).wf = true) ∧ ((y.1 = .nil ∧ l = []) ∨ ∃ es rest, y.1 = .slice es rest ∧ es.length = l.length) := by
  rcases open_slice Try.underlying29 h with ⟨hcs, hx⟩ | ⟨a, len, cap, m, n', D, Pl, hcs, hb, hl, hm, hmm, hx, hi⟩
  · simp only [List.cons.injEq, and_true] at hcs
    exact ⟨none, 0, [], hcs, fun h => by simp [cutCells] at h, ⟨Nat.zero_le _, Nat.zero_le _⟩, fun _ h => (by cases h), .inl ⟨by rw [hx], rfl⟩⟩
  · simp only [List.cons.injEq, and_true] at hcs
    have hmc : m = cap := by simpa using hmm
    subst hmc
    rw [Try.cellsCut] at hi
    have hq : ∀ i, i < len → ∃ x : Int × Int, (∀ j, j < 2 → w.cell? ((a.add (i * 2)).add j) = [Value.int .i64 x.1, .int .i64 x.2][j]?) ∧ (ki x.1).wf = true ∧ (ki x.2).wf = true := by
      intro i hil
      obtain ⟨cs', hc', ht'⟩ := hi i (by omega)
      obtain ⟨x, p, rfl, w1, w2⟩ := cut_of ht'
      exact ⟨(x, p), (World.cells?_some hc').2.2, w1, w2⟩
    obtain ⟨f, hfn⟩ := exists_fn hq
    refine ⟨some a, m, (List.range len).map f, by simp [hcs], rd_of fun j u hu => ?_, ⟨by simpa using hl, hm⟩, fun x hx => ?_, .inr ⟨_, _, by rw [hx], by simp⟩⟩
    · obtain ⟨i, k, rfl, hk, hil, hu⟩ := cutCells_get _ j u hu
      have hil' : i < len := by simpa using hil
      have := (hfn i hil').1 k hk
      rw [← Go.Deep.add_add, this]
      simpa using hu
    · obtain ⟨i, hi', rfl⟩ := List.mem_map.1 hx
      exact (hfn i (by simpa using hi')).2
theorem texts_at {n : Nat} {c0 : Value} {y : DataW H × List MemPlace} (h : DataW.trod enc Try.prog w 0 (fun _ => true) true n 28 [c0] = some y) :
    ∃ (A : Option Addr) (c : Nat) (l : List ByteArray), c0 = .slice A l.length c ∧ Rd w A (l.map Value.string) ∧ (l.length ≤ c ∧ c ≤ maxLen) ∧ ((y.1 = .nil ∧ l = []) ∨ ∃ rest, y.1 = .slice (strs l) rest) := by
  rcases open_strings Try.underlying28 Try.underlying9 Try.cellsText h with ⟨hcs, hd⟩ | ⟨a, len, cap, zs, hcs, _, hl, hm, hz, hd, hcell, _⟩
  · exact ⟨none, 0, [], by simp_all, fun h => by simp at h, ⟨Nat.le_refl _, Nat.zero_le _⟩, .inl ⟨by rw [hd], rfl⟩⟩
  · have hzc : zs.length = cap := by simpa using hz
    have hlen' : (zs.take len).length = len := by rw [List.length_take]; omega
    refine ⟨some a, cap, zs.take len, by rw [hlen']; simp_all, rd_of fun i u hu => ?_, ⟨by rw [hlen']; exact hl, hm⟩, .inr ⟨strs (zs.drop len), by rw [hd]⟩⟩
    have hi : i < len := by
      have := (List.getElem?_eq_some_iff.1 hu).1
      rw [List.length_map, hlen'] at this
      exact this
    rw [hcell i (by omega)]
    rw [List.getElem?_map, List.getElem?_take, if_pos hi, List.getElem?_eq_getElem (by omega)] at hu
    simp only [Option.map_some, Option.some.injEq] at hu
    rw [← hu, List.getD_eq_getElem?_getD, List.getElem?_eq_getElem (by omega)]
    rfl
theorem op_of {n : Nat} {cs : List Value} {y : DataW H × List MemPlace} (h : DataW.trod enc Try.prog w 0 (fun _ => true) true n 31 cs = some y) : ∃ p : Opr, cs = p.cells ∧ p.data y.1 ∧ p.ok w := by
  obtain ⟨xs, m, _, hx, hlen, hxl, hf⟩ := DataW.trod_struct Try.underlying31 h
  rw [Try.cellsOp] at hlen
  match cs, hlen with
  | [c0, c1, c2, c3, c4, c5], _ =>
    match xs, hxl with
    | [x0, x1, x2, x3, x4, x5], _ =>
      have h0 : DataW.trod enc Try.prog w 0 (fun _ => true) true m 3 (([c0, c1, c2, c3, c4, c5].drop 0).take (Try.prog.cellsOf 3)) = some x0 := hf 0 _ rfl
      have h1 : DataW.trod enc Try.prog w 0 (fun _ => true) true m 3 (([c0, c1, c2, c3, c4, c5].drop 1).take (Try.prog.cellsOf 3)) = some x1 := hf 1 _ rfl
      have h2 : DataW.trod enc Try.prog w 0 (fun _ => true) true m 3 (([c0, c1, c2, c3, c4, c5].drop 2).take (Try.prog.cellsOf 3)) = some x2 := hf 2 _ rfl
      have h3 : DataW.trod enc Try.prog w 0 (fun _ => true) true m 3 (([c0, c1, c2, c3, c4, c5].drop 3).take (Try.prog.cellsOf 3)) = some x3 := hf 3 _ rfl
      have h4 : DataW.trod enc Try.prog w 0 (fun _ => true) true m 28 (([c0, c1, c2, c3, c4, c5].drop 4).take (Try.prog.cellsOf 28)) = some x4 := hf 4 _ rfl
      have h5 : DataW.trod enc Try.prog w 0 (fun _ => true) true m 29 (([c0, c1, c2, c3, c4, c5].drop 5).take (Try.prog.cellsOf 29)) = some x5 := hf 5 _ rfl
      rw [Try.cellInt] at h0 h1 h2 h3
      rw [Try.cellsTexts] at h4
      rw [Try.cellsCuts] at h5
      obtain ⟨a0, rfl, w0⟩ := int_at (show DataW.trod enc Try.prog w 0 (fun _ => true) true m 3 [c0] = some x0 from h0)
      obtain ⟨a1, rfl, w1⟩ := int_at (show DataW.trod enc Try.prog w 0 (fun _ => true) true m 3 [c1] = some x1 from h1)
      obtain ⟨a2, rfl, w2⟩ := int_at (show DataW.trod enc Try.prog w 0 (fun _ => true) true m 3 [c2] = some x2 from h2)
      obtain ⟨a3, rfl, w3⟩ := int_at (show DataW.trod enc Try.prog w 0 (fun _ => true) true m 3 [c3] = some x3 from h3)
      obtain ⟨A, c, l, rfl, r1, k1, d1⟩ := texts_at (show DataW.trod enc Try.prog w 0 (fun _ => true) true m 28 [c4] = some x4 from h4)
      obtain ⟨A2, cc, l2, rfl, r2, k2, wf2, d2⟩ := cuts_at (show DataW.trod enc Try.prog w 0 (fun _ => true) true m 29 [c5] = some x5 from h5)
      exact ⟨⟨a0, a1, a2, a3, A, c, l, A2, cc, l2⟩, rfl, ⟨x0.1, x1.1, x2.1, x3.1, x4.1, x5.1, by rw [hx]; rfl, d1, d2⟩, ⟨r1, k1, r2, k2, wf2, w0, w1, w2, w3⟩⟩
/-- A row of calls that came in: as a value, as cells, as data. -/
theorem open_script {v : Value} {d : DataW H} {ps : List MemPlace} (hv : Value.okWide Try.prog w .any base 22 v) (h : DataW.Trod enc Try.prog w 0 (fun _ => true) true 22 v d ps) :
    ∃ (A : Option Addr) (c : Nat) (l : List Opr), v = .slice A l.length c ∧ Script w A l ∧
      ((d = .nil ∧ l = []) ∨ ∃ es rest, d = .slice es rest ∧ es.length = l.length ∧ ∀ i (hi : i < l.length), ∃ x, es[i]? = some x ∧ l[i].data x) := by
  obtain ⟨a0, len0, cap0, rfl⟩ := okWide_slice Try.underlying22 hv
  obtain ⟨fuel, hf⟩ := h
  rcases open_slice Try.underlying22 hf with ⟨hcs, hx⟩ | ⟨a, len, cap, m, n, D, Pl, hcs, hb, hl, hm, hmm, hx, hi⟩
  · simp only [Value.cells, List.cons.injEq, Value.slice.injEq, and_true] at hcs
    obtain ⟨rfl, rfl, rfl⟩ := hcs
    simp only [Prod.mk.injEq] at hx
    exact ⟨none, 0, [], rfl, ⟨fun h => by simp at h, by simp⟩, .inl ⟨hx.1, rfl⟩⟩
  · simp only [Value.cells, List.cons.injEq, Value.slice.injEq, and_true] at hcs
    obtain ⟨rfl, rfl, rfl⟩ := hcs
    have hmc : m = cap0 := by simpa using hmm
    subst hmc
    rw [Try.cellsOp] at hi
    have hq : ∀ i, i < len0 → ∃ p : Opr, (∀ j, j < 6 → w.cell? ((a.add (i * 6)).add j) = p.cells[j]?) ∧ p.data (D i) ∧ p.ok w := by
      intro i hil
      obtain ⟨cs', hc, ht⟩ := hi i (by omega)
      obtain ⟨p, rfl, hd, hs⟩ := op_of ht
      exact ⟨p, (World.cells?_some hc).2.2, hd, hs⟩
    obtain ⟨f, hfn⟩ := exists_fn hq
    simp only [Prod.mk.injEq] at hx
    refine ⟨some a, m, (List.range len0).map f, by simp, ⟨?_, ?_⟩, .inr ⟨_, _, hx.1, by simp, fun i hi' => ?_⟩⟩
    · intro hpos
      have hp0 : 0 < len0 := by simpa using hpos
      have h00 := (hfn 0 hp0).1 0 (by decide)
      have e0 : (a.add (0 * 6)).add 0 = a := by simp [Addr.add]
      rw [e0] at h00
      have hspot := World.cell?_spot h00
      obtain ⟨g, o, spot⟩ := a
      simp only at hspot
      subst hspot
      refine ⟨g, o, rfl, World.block_lt_of_cell? w ⟨g, o, none⟩ h00, fun j hj k u hu => ?_⟩
      have hj' : j < len0 := by simpa using hj
      simp only [List.getElem_map, List.getElem_range] at hu
      have hk : k < 6 := (List.getElem?_eq_some_iff.1 hu).1
      have hc := (hfn j hj').1 k hk
      simp only [add_plain] at hc
      rw [hc]
      exact hu
    · intro t ht
      obtain ⟨i, hi', rfl⟩ := List.mem_map.1 ht
      exact (hfn i (by simpa using hi')).2.2
    · have hil : i < len0 := by simpa using hi'
      refine ⟨D i, by simp [hil], ?_⟩
      simp only [List.getElem_map, List.getElem_range]
      exact (hfn i hil).2.1
end

theorem bulk_texts {H : Type} (l : List ByteArray) : l.length ≤ Rows.uptoBulkAll (H := H) (strs l) ∧ (jn l).length ≤ Rows.uptoBulkAll (H := H) (strs l) := by
  induction l with
  | nil => simp [strs, jn, Rows.uptoBulkAll]
  | cons x l ih =>
    have e : x.data.toList.length = x.size := by rw [Array.length_toList]; rfl
    have hj : (jn (x :: l)).length = x.size + (jn l).length := by
      show (bytesOf x ++ jn l).length = _
      rw [List.length_append, bytesOf_length]
    have hs : Rows.uptoBulkAll (H := H) (strs (x :: l)) = Rows.uptoBulk (H := H) (.lit (.string x.data.toList)) + Rows.uptoBulkAll (strs l) := rfl
    have hb : Rows.uptoBulk (H := H) (.lit (.string x.data.toList)) = x.size + 1 := by
      simp only [Rows.uptoBulk, e]
    rw [hs, hb, hj, List.length_cons]
    exact ⟨by omega, by omega⟩
theorem bulk_pos {H : Type} : ∀ d : DataW H, 1 ≤ Rows.uptoBulk d
  | .lit l => by cases l <;> simp [Rows.uptoBulk]
  | .nil => by simp [Rows.uptoBulk]
  | .ptr d => by simp [Rows.uptoBulk]
  | .slice a b => by simp [Rows.uptoBulk]
  | .agg l => by simp [Rows.uptoBulk]
  | .iface _ d => by simp [Rows.uptoBulk]
  | .map e => by simp [Rows.uptoBulk]
  | .held _ => by simp [Rows.uptoBulk]
theorem bulk_len {H : Type} : ∀ es : List (DataW H), es.length ≤ Rows.uptoBulkAll es
  | [] => by simp
  | d :: r => by
    have := bulk_pos d
    have := bulk_len r
    simp only [List.length_cons, Rows.uptoBulkAll]
    omega
/-- how much a call holds -/
def Opr.small (p : Opr) : Prop := p.xs.length ≤ 1048576 ∧ (jn p.xs).length ≤ 1048576 ∧ p.l.length ≤ 1048576
theorem small_op {H : Type} {p : Opr} {d : DataW H} (h : p.data d) (hk : Rows.uptoBulk d ≤ 1048576) : p.small := by
  obtain ⟨x0, x1, x2, x3, dp, dc, rfl, h1, h2⟩ := h
  simp only [Rows.uptoBulk, Rows.uptoBulkAll] at hk
  have b1 : p.xs.length ≤ Rows.uptoBulk dp ∧ (jn p.xs).length ≤ Rows.uptoBulk dp := by
    rcases h1 with ⟨_, e⟩ | ⟨rest, rfl⟩
    · rw [e]; simp [jn]
    · have := bulk_texts (H := H) p.xs
      simp only [Rows.uptoBulk]
      omega
  have b2 : p.l.length ≤ Rows.uptoBulk dc := by
    rcases h2 with ⟨_, e⟩ | ⟨es, rest, rfl, he⟩
    · rw [e]; simp
    · have := bulk_len es
      simp only [Rows.uptoBulk]
      omega
  exact ⟨by omega, by omega, by omega⟩
theorem bulk_at {H : Type} : ∀ (es : List (DataW H)) (i : Nat) (x : DataW H), es[i]? = some x → Rows.uptoBulk x ≤ Rows.uptoBulkAll es
  | [], _, _, h => by simp at h
  | d :: r, 0, x, h => by
    simp only [List.getElem?_cons_zero, Option.some.injEq] at h
    subst h
    simp [Rows.uptoBulkAll]
  | d :: r, i + 1, x, h => by
    have := bulk_at r i x (by simpa using h)
    simp only [Rows.uptoBulkAll]
    omega
theorem small_script {H : Type} {d : DataW H} {l : List Opr} (hk : Rows.uptoSmall H [d] = true) (hd : (d = .nil ∧ l = []) ∨ ∃ es rest, d = .slice es rest ∧ es.length = l.length ∧ ∀ i (hi : i < l.length), ∃ x, es[i]? = some x ∧ l[i].data x) : l.length ≤ 1048576 ∧ ∀ p ∈ l, p.small := by
  have h : Rows.uptoBulkAll [d] ≤ 1048576 := of_decide_eq_true hk
  rcases hd with ⟨_, rfl⟩ | ⟨es, rest, rfl, hl, hx⟩
  · simp
  · simp only [Rows.uptoBulkAll, Rows.uptoBulk] at h
    have hlen := bulk_len es
    refine ⟨by omega, fun p hp => ?_⟩
    obtain ⟨i, hi, rfl⟩ := List.mem_iff_getElem.1 hp
    obtain ⟨x, hxi, hdx⟩ := hx i hi
    have := bulk_at es i x hxi
    exact small_op hdx (by omega)
end Go.Proofs.Ytafhkhkpknipmaa

/- How a row of texts is read that come from controllers at times; its bulk. -/
import Derived.Test.YtfmhfngilimhjaaSmallc
import Derived.Deep.Slices
import Derived.Lib.SmallJoins
import Derived.JoinedCond
namespace Go.Proofs.Ytfmhfngilimhjaa.Im
open Go.ChangeShapes Go.WideShapes Go.ChangeAt Go.RowKit Go.Deep Go.Joins

theorem cellsCome : Try.prog.cellsOf 48 = 3 := by kernel_rfl
theorem cellsStr : Try.prog.cellsOf 9 = 1 := by kernel_rfl
theorem cellsInt9 : Try.prog.cellsOf 3 = 1 := by kernel_rfl
theorem bytes_come : Try.prog.bytesOf 48 = 32 := by kernel_rfl

/-- a text that comes at a time -/
structure Cw where
  now : Int
  oc : Int
  x : ByteArray
/-- a row of them lies at A -/
def Comes (w : World) (A : Option Addr) (l : List Cw) : Prop :=
  0 < l.length → ∃ g o, A = some ⟨g, o, none⟩ ∧ g < w.heap.size ∧ ∀ j (hj : j < l.length), w.cell? ⟨g, o + j * 3, none⟩ = some (.int .i64 l[j].now) ∧ w.cell? ⟨g, o + j * 3 + 1, none⟩ = some (.int .i64 l[j].oc) ∧ w.cell? ⟨g, o + j * 3 + 2, none⟩ = some (.string l[j].x)
theorem Comes.fr {w w1 : World} {A : Option Addr} {l : List Cw} {S : Nat → Prop} (h : Comes w A l) (f : Fr S w w1) (hn : ∀ k, blk A = some k → ¬ S k) : Comes w1 A l := fun h0 => by
  obtain ⟨g, o, rfl, hg, hc⟩ := h h0
  refine ⟨g, o, rfl, Nat.lt_of_lt_of_le hg f.size, fun j hj => ?_⟩
  obtain ⟨c0, c1, c2⟩ := hc j hj
  exact ⟨(f.cell (p := ⟨g, o + j * 3, none⟩) hg (hn g rfl)).trans c0, (f.cell (p := ⟨g, o + j * 3 + 1, none⟩) hg (hn g rfl)).trans c1, (f.cell (p := ⟨g, o + j * 3 + 2, none⟩) hg (hn g rfl)).trans c2⟩
theorem Comes.lt {w : World} {A : Option Addr} {l : List Cw} (h : Comes w A l) (h0 : 0 < l.length) : ∀ k, blk A = some k → k < w.heap.size := by
  obtain ⟨g, o, rfl, hg, _⟩ := h h0
  intro k hk
  have : g = k := by injection hk
  omega

section
variable {H : Type} {enc : TypeId × Value → H} {w : World} {base : Nat}
theorem int9 {n : Nat} {c : Value} {y : DataW H × List MemPlace} (h : DataW.trod enc Try.prog w 0 (fun _ => true) true n 3 [c] = some y) : ∃ a : Int, c = .int .i64 a ∧ y.1 = .lit (.int .i64 a) ∧ -9223372036854775808 ≤ a ∧ a ≤ 9223372036854775807 := by
  obtain ⟨a, e, d, wa⟩ := DataW.trod_int Try.underlying3 h
  refine ⟨a, by injection e, by rw [d], ?_⟩
  simp only [Lit.wf, IntKind.min, IntKind.max, IntKind.signed, IntKind.bits, Bool.and_eq_true, decide_eq_true_eq, if_true] at wa
  have := wa.1
  have := wa.2
  omega
set_option maxRecDepth 100000 in
theorem come_of {n : Nat} {cs : List Value} {y : DataW H × List MemPlace} (h : DataW.trod enc Try.prog w 0 (fun _ => true) true n 48 cs = some y) :
    ∃ c : Cw, cs = [.int .i64 c.now, .int .i64 c.oc, .string c.x] ∧ y.1 = .agg [.lit (.int .i64 c.now), .lit (.int .i64 c.oc), .lit (.string c.x.data.toList)] ∧ (-9223372036854775808 ≤ c.now ∧ c.now ≤ 9223372036854775807) ∧ -9223372036854775808 ≤ c.oc ∧ c.oc ≤ 9223372036854775807 := by
  obtain ⟨xs, m, _, hx, hlen, hxl, hf⟩ := DataW.trod_struct Try.underlying48 h
  rw [cellsCome] at hlen
  match cs, hlen with
  | [c0, c1, c2], _ =>
    match xs, hxl with
    | [x0, x1, x2], _ =>
      have h0 : DataW.trod enc Try.prog w 0 (fun _ => true) true m 3 (([c0, c1, c2].drop 0).take (Try.prog.cellsOf 3)) = some x0 := hf 0 _ rfl
      have h1 : DataW.trod enc Try.prog w 0 (fun _ => true) true m 3 (([c0, c1, c2].drop 1).take (Try.prog.cellsOf 3)) = some x1 := hf 1 _ rfl
      have h2 : DataW.trod enc Try.prog w 0 (fun _ => true) true m 9 (([c0, c1, c2].drop 2).take (Try.prog.cellsOf 9)) = some x2 := hf 2 _ rfl
      rw [cellsInt9] at h0 h1
      rw [cellsStr] at h2
      obtain ⟨a, rfl, d0, wa⟩ := int9 (show DataW.trod enc Try.prog w 0 (fun _ => true) true m 3 [c0] = some x0 from h0)
      obtain ⟨b, rfl, d1, wb⟩ := int9 (show DataW.trod enc Try.prog w 0 (fun _ => true) true m 3 [c1] = some x1 from h1)
      obtain ⟨s, e1, d2, _⟩ := DataW.trod_string Try.underlying9 h2
      refine ⟨⟨a, b, s⟩, by simp_all, ?_, wa, wb⟩
      rw [hx]
      simp [d0, d1, d2]

theorem exists_fun {α : Type} [Inhabited α] {m : Nat} {Q : Nat → α → Prop} (h : ∀ i, i < m → ∃ a, Q i a) : ∃ f : Nat → α, ∀ i, i < m → Q i (f i) := by
  classical
  refine ⟨fun i => if hi : i < m then (h i hi).choose else default, fun i hi => ?_⟩
  simp only [hi, dif_pos]
  exact (h i hi).choose_spec
set_option maxRecDepth 100000 in
/-- A row of texts that came in: as a value, as cells, as data. -/
theorem open_come11 {v : Value} {d : DataW H} {ps : List MemPlace} (hv : Value.okWide Try.prog w .any base 42 v) (h : DataW.Trod enc Try.prog w 0 (fun _ => true) true 42 v d ps) :
    ∃ (A : Option Addr) (c : Nat) (l : List Cw), v = .slice A l.length c ∧ Comes w A l ∧ l.length ≤ c ∧ (∀ t ∈ l, (-9223372036854775808 ≤ t.now ∧ t.now ≤ 9223372036854775807) ∧ -9223372036854775808 ≤ t.oc ∧ t.oc ≤ 9223372036854775807) ∧
      ((d = .nil ∧ l = []) ∨ ∃ es rest, d = .slice es rest ∧ es.length = l.length ∧ ∀ i (hi : i < l.length), es[i]? = some (.agg [.lit (.int .i64 l[i].now), .lit (.int .i64 l[i].oc), .lit (.string l[i].x.data.toList)])) := by
  obtain ⟨a0, len0, cap0, rfl⟩ := okWide_slice Try.underlying42 hv
  obtain ⟨fuel, hf⟩ := h
  rcases open_slice Try.underlying42 hf with ⟨hcs, hx⟩ | ⟨a, len, cap, m, n, D, Pl, hcs, hb, hl, hm, hmm, hx, hi⟩
  · simp only [Value.cells, List.cons.injEq, Value.slice.injEq, and_true] at hcs
    obtain ⟨rfl, rfl, rfl⟩ := hcs
    simp only [Prod.mk.injEq] at hx
    exact ⟨none, 0, [], rfl, fun h => by simp at h, Nat.le_refl _, by simp, .inl ⟨hx.1, rfl⟩⟩
  · simp only [Value.cells, List.cons.injEq, Value.slice.injEq, and_true] at hcs
    obtain ⟨rfl, rfl, rfl⟩ := hcs
    have hmc : m = cap0 := by simpa using hmm
    subst hmc
    rw [cellsCome] at hi
    have hq : ∀ i, i < len0 → ∃ p : Cw, (∀ j, j < 3 → w.cell? ((a.add (i * 3)).add j) = [Value.int .i64 p.now, .int .i64 p.oc, .string p.x][j]?) ∧ D i = .agg [.lit (.int .i64 p.now), .lit (.int .i64 p.oc), .lit (.string p.x.data.toList)] ∧ (-9223372036854775808 ≤ p.now ∧ p.now ≤ 9223372036854775807) ∧ -9223372036854775808 ≤ p.oc ∧ p.oc ≤ 9223372036854775807 := by
      intro i hil
      obtain ⟨cs', hc, ht⟩ := hi i (by omega)
      obtain ⟨p, rfl, hd, hs⟩ := come_of ht
      exact ⟨p, (World.cells?_some hc).2.2, hd, hs⟩
    have : Inhabited Cw := ⟨⟨0, 0, .empty⟩⟩
    obtain ⟨f, hfn⟩ := exists_fun hq
    simp only [Prod.mk.injEq] at hx
    refine ⟨some a, m, (List.range len0).map f, by simp, ?_, by simp; omega, ?_, .inr ⟨_, _, hx.1, by simp, fun i hi' => ?_⟩⟩
    · intro hpos
      have hp0 : 0 < len0 := by simpa using hpos
      have h00 := (hfn 0 hp0).1 0 (by decide)
      have e0 : (a.add (0 * 3)).add 0 = a := by simp [Addr.add]
      rw [e0] at h00
      have hspot := World.cell?_spot h00
      obtain ⟨g, o, spot⟩ := a
      simp only at hspot
      subst hspot
      refine ⟨g, o, rfl, World.block_lt_of_cell? w ⟨g, o, none⟩ h00, fun j hj => ?_⟩
      have hj' : j < len0 := by simpa using hj
      have hc := (hfn j hj').1
      have c0 := hc 0 (by decide)
      have c1 := hc 1 (by decide)
      have c2 := hc 2 (by decide)
      simp only [add_plain] at c0 c1 c2
      simp only [List.getElem_map, List.getElem_range]
      exact ⟨by simpa using c0, by simpa using c1, by simpa using c2⟩
    · intro t ht
      obtain ⟨i, hi', rfl⟩ := List.mem_map.1 ht
      exact (hfn i (by simpa using hi')).2.2
    · have hil : i < len0 := by simpa using hi'
      simp only [List.getElem_map, List.getElem_range]
      rw [← (hfn i hil).2.1]
      simp [hil]
end

theorem bulk_at {H : Type} : ∀ (es : List (DataW H)) (i : Nat) (x : DataW H), es[i]? = some x → Rows.uptoBulk x ≤ Rows.uptoBulkAll es
  | d :: r, 0, x, h => by
    simp only [List.getElem?_cons_zero, Option.some.injEq] at h
    subst h
    simp only [Rows.uptoBulkAll]
    omega
  | d :: r, i + 1, x, h => by
    simp only [List.getElem?_cons_succ] at h
    have := bulk_at r i x h
    simp only [Rows.uptoBulkAll]
    omega
  | [], _, _, h => by simp at h
theorem small_come11 {H : Type} {d0 d : DataW H} {l : List Cw} (hk : Rows.uptoSmall H [d0, d] = true)
    (h : (d = .nil ∧ l = []) ∨ ∃ es rest, d = .slice es rest ∧ es.length = l.length ∧ ∀ i (hi : i < l.length), es[i]? = some (.agg [.lit (.int .i64 l[i].now), .lit (.int .i64 l[i].oc), .lit (.string l[i].x.data.toList)])) : l.length ≤ 1048576 ∧ ∀ p ∈ l, p.x.size ≤ 1048576 := by
  have hk2 : Rows.uptoBulkAll [d0, d] ≤ 1048576 := of_decide_eq_true hk
  rcases h with ⟨_, rfl⟩ | ⟨es, rest, rfl, hlen, hx⟩
  · simp
  · have hb := bulk_len es
    simp only [Rows.uptoBulkAll, Rows.uptoBulk] at hk2
    refine ⟨by omega, fun p hp => ?_⟩
    obtain ⟨i, hi, rfl⟩ := List.getElem_of_mem hp
    have := bulk_at es i _ (hx i hi)
    simp only [Rows.uptoBulk, Rows.uptoBulkAll] at this
    have e : l[i].x.data.toList.length = l[i].x.size := by rw [Array.length_toList]; rfl
    omega
end Go.Proofs.Ytfmhfngilimhjaa.Im

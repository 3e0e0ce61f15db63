/- How arguments are read that are telegrams' fields, or rows of texts that come at times. -/
import Derived.Test.YtcencpkoimahbaaLaw
import Derived.Test.YtcencpkoimahbaaInts
import Derived.Deep.Slices
import Derived.Lib.SmallJoins
import Derived.SizedLaws
namespace Go.Proofs.Ytcencpkoimahbaa
open Go.ChangeShapes Go.WideShapes Go.ChangeAt Go.RowKit Go.Deep Go.Joins

theorem Try.cellsSaid : Try.prog.cellsOf 23 = 4 := by kernel_rfl
theorem Try.cellsCome : Try.prog.cellsOf 39 = 2 := by kernel_rfl
theorem Try.cellsStr : Try.prog.cellsOf 9 = 1 := by kernel_rfl
theorem Try.cellsInt9 : Try.prog.cellsOf 3 = 1 := by kernel_rfl
theorem bytes_come : Try.prog.bytesOf 39 = 24 := by kernel_rfl

/-- a text that comes at a time -/
structure Cm where
  now : Int
  x : ByteArray
/-- a row of them lies at A -/
def Comes (w : World) (A : Option Addr) (l : List Cm) : Prop :=
  0 < l.length → ∃ g o, A = some ⟨g, o, none⟩ ∧ g < w.heap.size ∧ ∀ j (hj : j < l.length), w.cell? ⟨g, o + j * 2, none⟩ = some (.int .i64 l[j].now) ∧ w.cell? ⟨g, o + j * 2 + 1, none⟩ = some (.string l[j].x)
theorem Comes.fr {w w1 : World} {A : Option Addr} {l : List Cm} {S : Nat → Prop} (h : Comes w A l) (f : Fr S w w1) (hn : ∀ k, blk A = some k → ¬ S k) : Comes w1 A l := fun h0 => by
  obtain ⟨g, o, rfl, hg, hc⟩ := h h0
  refine ⟨g, o, rfl, Nat.lt_of_lt_of_le hg f.size, fun j hj => ?_⟩
  obtain ⟨c0, c1⟩ := hc j hj
  exact ⟨(f.cell (p := ⟨g, o + j * 2, none⟩) hg (hn g rfl)).trans c0, (f.cell (p := ⟨g, o + j * 2 + 1, none⟩) hg (hn g rfl)).trans c1⟩
theorem Comes.lt {w : World} {A : Option Addr} {l : List Cm} (h : Comes w A l) (h0 : 0 < l.length) : ∀ k, blk A = some k → k < w.heap.size := by
  obtain ⟨g, o, rfl, hg, _⟩ := h h0
  intro k hk
  have : g = k := by injection hk
  omega

section
variable {H : Type} {enc : TypeId × Value → H} {w : World} {base : Nat}
theorem int9 {n : Nat} {c : Value} {y : DataW H × List MemPlace} (h : DataW.trod enc Try.prog w 0 (fun _ => true) true n 3 [c] = some y) : ∃ a : Int, c = .int .i64 a ∧ y.1 = .lit (.int .i64 a) ∧ -9223372036854775808 ≤ a ∧ a ≤ 9223372036854775807 := by
  obtain ⟨a, e, d, wa⟩ := DataW.trod_int Try.underlying3 h
  refine ⟨a, by injection e, by rw [d], ?_⟩
  simp only [Lit.wf, IntKind.min, IntKind.max, IntKind.signed, IntKind.bits, Bool.and_eq_true, decide_eq_true_eq, if_true] at wa
  have := wa.1
  have := wa.2
  omega
set_option maxRecDepth 100000 in
theorem open_said {v : Value} {d : DataW H} {ps : List MemPlace} (hv : Value.okWide Try.prog w .any base 23 v) (h : DataW.Trod enc Try.prog w 0 (fun _ => true) true 23 v d ps) :
    ∃ (p n s : Int) (x : ByteArray), v = .agg #[.int .i64 p, .int .i64 n, .int .i64 s, .string x] := by
  obtain ⟨v0, v1, v2, v3, y0, y1, y2, y3, n, rfl, _, _, h0, h1, h2, h3⟩ := open_agg4 Try.underlying23 (by kernel_rfl) Try.cellsSaid hv h
  obtain ⟨a, rfl, _⟩ := int9 h0
  obtain ⟨b, rfl, _⟩ := int9 h1
  obtain ⟨c, rfl, _⟩ := int9 h2
  obtain ⟨s, e, _, _⟩ := DataW.trod_string Try.underlying9 h3
  have e' : v3 = .string s := by injection e
  subst e'
  exact ⟨a, b, c, s, rfl⟩
set_option maxRecDepth 100000 in
theorem come_of {n : Nat} {cs : List Value} {y : DataW H × List MemPlace} (h : DataW.trod enc Try.prog w 0 (fun _ => true) true n 39 cs = some y) :
    ∃ c : Cm, cs = [.int .i64 c.now, .string c.x] ∧ y.1 = .agg [.lit (.int .i64 c.now), .lit (.string c.x.data.toList)] ∧ -9223372036854775808 ≤ c.now ∧ c.now ≤ 9223372036854775807 := by
  obtain ⟨xs, m, _, hx, hlen, hxl, hf⟩ := DataW.trod_struct Try.underlying39 h
  rw [Try.cellsCome] at hlen
  match cs, hlen with
  | [c0, c1], _ =>
    match xs, hxl with
    | [x0, x1], _ =>
      have h0 : DataW.trod enc Try.prog w 0 (fun _ => true) true m 3 (([c0, c1].drop 0).take (Try.prog.cellsOf 3)) = some x0 := hf 0 _ rfl
      have h1 : DataW.trod enc Try.prog w 0 (fun _ => true) true m 9 (([c0, c1].drop 1).take (Try.prog.cellsOf 9)) = some x1 := hf 1 _ rfl
      rw [Try.cellsInt9] at h0
      rw [Try.cellsStr] at h1
      obtain ⟨a, rfl, d0, wa⟩ := int9 (show DataW.trod enc Try.prog w 0 (fun _ => true) true m 3 [c0] = some x0 from h0)
      obtain ⟨s, e1, d1, _⟩ := DataW.trod_string Try.underlying9 (show DataW.trod enc Try.prog w 0 (fun _ => true) true m 9 [c1] = some x1 from h1)
      refine ⟨⟨a, s⟩, by simp_all, ?_, wa⟩
      rw [hx]
      simp [d0, d1]

theorem exists_fun {α : Type} [Inhabited α] {m : Nat} {Q : Nat → α → Prop} (h : ∀ i, i < m → ∃ a, Q i a) : ∃ f : Nat → α, ∀ i, i < m → Q i (f i) := by
  classical
  refine ⟨fun i => if hi : i < m then (h i hi).choose else default, fun i hi => ?_⟩
  simp only [hi, dif_pos]
  exact (h i hi).choose_spec
set_option maxRecDepth 100000 in
/-- A row of texts that came in: as a value, as cells, as data. -/
theorem open_comes {v : Value} {d : DataW H} {ps : List MemPlace} (hv : Value.okWide Try.prog w .any base 33 v) (h : DataW.Trod enc Try.prog w 0 (fun _ => true) true 33 v d ps) :
    ∃ (A : Option Addr) (c : Nat) (l : List Cm), v = .slice A l.length c ∧ Comes w A l ∧ (∀ t ∈ l, -9223372036854775808 ≤ t.now ∧ t.now ≤ 9223372036854775807) ∧
      ((d = .nil ∧ l = []) ∨ ∃ es rest, d = .slice es rest ∧ es.length = l.length ∧ ∀ i (hi : i < l.length), es[i]? = some (.agg [.lit (.int .i64 l[i].now), .lit (.string l[i].x.data.toList)])) := by
  obtain ⟨a0, len0, cap0, rfl⟩ := okWide_slice Try.underlying33 hv
  obtain ⟨fuel, hf⟩ := h
  rcases open_slice Try.underlying33 hf with ⟨hcs, hx⟩ | ⟨a, len, cap, m, n, D, Pl, hcs, hb, hl, hm, hmm, hx, hi⟩
  · simp only [Value.cells, List.cons.injEq, Value.slice.injEq, and_true] at hcs
    obtain ⟨rfl, rfl, rfl⟩ := hcs
    simp only [Prod.mk.injEq] at hx
    exact ⟨none, 0, [], rfl, fun h => by simp at h, by simp, .inl ⟨hx.1, rfl⟩⟩
  · simp only [Value.cells, List.cons.injEq, Value.slice.injEq, and_true] at hcs
    obtain ⟨rfl, rfl, rfl⟩ := hcs
    have hmc : m = cap0 := by simpa using hmm
    subst hmc
    rw [Try.cellsCome] at hi
    have hq : ∀ i, i < len0 → ∃ p : Cm, (∀ j, j < 2 → w.cell? ((a.add (i * 2)).add j) = [Value.int .i64 p.now, .string p.x][j]?) ∧ D i = .agg [.lit (.int .i64 p.now), .lit (.string p.x.data.toList)] ∧ -9223372036854775808 ≤ p.now ∧ p.now ≤ 9223372036854775807 := by
      intro i hil
      obtain ⟨cs', hc, ht⟩ := hi i (by omega)
      obtain ⟨p, rfl, hd, hs⟩ := come_of ht
      exact ⟨p, (World.cells?_some hc).2.2, hd, hs⟩
    have : Inhabited Cm := ⟨⟨0, .empty⟩⟩
    obtain ⟨f, hfn⟩ := exists_fun hq
    simp only [Prod.mk.injEq] at hx
    refine ⟨some a, m, (List.range len0).map f, by simp, ?_, ?_, .inr ⟨_, _, hx.1, by simp, fun i hi' => ?_⟩⟩
    · intro hpos
      have hp0 : 0 < len0 := by simpa using hpos
      have h00 := (hfn 0 hp0).1 0 (by decide)
      have e0 : (a.add (0 * 2)).add 0 = a := by simp [Addr.add]
      rw [e0] at h00
      have hspot := World.cell?_spot h00
      obtain ⟨g, o, spot⟩ := a
      simp only at hspot
      subst hspot
      refine ⟨g, o, rfl, World.block_lt_of_cell? w ⟨g, o, none⟩ h00, fun j hj => ?_⟩
      have hj' : j < len0 := by simpa using hj
      have hc := (hfn j hj').1
      have c0 := hc 0 (by decide)
      have c1 := hc 1 (by decide)
      simp only [add_plain] at c0 c1
      simp only [List.getElem_map, List.getElem_range]
      exact ⟨by simpa using c0, by simpa using c1⟩
    · intro t ht
      obtain ⟨i, hi', rfl⟩ := List.mem_map.1 ht
      exact (hfn i (by simpa using hi')).2.2
    · have hil : i < len0 := by simpa using hi'
      simp only [List.getElem_map, List.getElem_range]
      rw [← (hfn i hil).2.1]
      simp [hil]
end

theorem weights_all {H : Type} {P : Program} {e : TypeId} : ∀ {es : List (DataW H)} {i : Nat} {x : DataW H} {n : Nat}, es[i]? = some x → n ∈ x.weights P e → n ∈ DataW.weightsAll P e es
  | y :: es, 0, x, n, h, hn => by
    simp only [List.getElem?_cons_zero, Option.some.injEq] at h
    subst h
    simp only [DataW.weightsAll, List.mem_append]
    exact .inl hn
  | y :: es, i + 1, x, n, h, hn => by
    simp only [List.getElem?_cons_succ] at h
    simp only [DataW.weightsAll, List.mem_append]
    exact .inr (weights_all h hn)
  | [], _, _, _, h, _ => by simp at h
set_option maxRecDepth 100000 in
/-- the sizes of a row of texts, and of each of them -/
theorem come_sizes {H : Type} {ts : List TypeId} {ds : List (DataW H)} (hsz : (DataW.weightsEach Try.prog ts ds).all (· ≤ reachBytes) = true) {j : Nat} {d : DataW H} {l : List Cm} (ht : ts[j]? = some 33) (hd : ds[j]? = some d)
    (h : (d = .nil ∧ l = []) ∨ ∃ es rest, d = .slice es rest ∧ es.length = l.length ∧ ∀ i (hi : i < l.length), es[i]? = some (.agg [.lit (.int .i64 l[i].now), .lit (.string l[i].x.data.toList)])) : l.length * 24 ≤ 140737488351232 ∧ ∀ p ∈ l, p.x.size ≤ 140737488351232 := by
  rcases h with ⟨_, rfl⟩ | ⟨es, rest, rfl, hlen, hx⟩
  · simp
  · refine ⟨?_, fun p hp => ?_⟩
    · have := sized_slice hsz ht hd Try.underlying33
      rw [bytes_come] at this
      unfold reachBytes at this
      omega
    · obtain ⟨i, hi, rfl⟩ := List.mem_iff_getElem.1 hp
      have hxi := hx i hi
      have hm : l[i].x.data.toList.length ∈ DataW.weightsEach Try.prog ts ds := by
        refine DataW.weights_mem_each ht hd _ ?_
        simp only [DataW.weights, Try.underlying33]
        refine List.mem_cons_of_mem _ (List.mem_append.2 (.inl (weights_all hxi ?_)))
        simp only [DataW.weights, Try.underlying39]
        simp only [List.map_cons, List.map_nil, DataW.weightsEach, DataW.weights]
        simp
      have := List.all_eq_true.1 hsz _ hm
      simp only [decide_eq_true_eq] at this
      unfold reachBytes at this
      have e : l[i].x.data.toList.length = l[i].x.size := by rw [Array.length_toList]; rfl
      omega
end Go.Proofs.Ytcencpkoimahbaa

/- Contracts and plain mathematics of earlier stages: Openc, Sizec. -/
import Derived.Test.YtnnacdkijeoeoaaKc
import Derived.Test.YtnnacdkijeoeoaaKa
import Derived.Deep.Slices
import Derived.Lib.SmallJoins
namespace Go.Proofs.Ytnnacdkijeoeoaa
/-- numbers of 64 bits -/
def I64 (l : List Int) : Prop := ∀ n ∈ l, -9223372036854775808 ≤ n ∧ n ≤ 9223372036854775807
open Go.ChangeShapes Go.WideShapes Go.ChangeAt Go.RowKit Go.Deep Go.Joins

theorem Try.cellsSec : Try.prog.cellsOf 73 = 3 := by kernel_rfl
theorem Try.cellsJo : Try.prog.cellsOf 75 = 4 := by kernel_rfl
theorem Try.cellsSg : Try.prog.cellsOf 77 = 2 := by kernel_rfl
theorem Try.cellsSt : Try.prog.cellsOf 79 = 3 := by kernel_rfl
theorem Try.cellsNd : Try.prog.cellsOf 120 = 2 := by kernel_rfl
theorem Try.cellsTm : Try.prog.cellsOf 28 = 4 := by kernel_rfl
theorem Try.cellsRo : Try.prog.cellsOf 83 = 6 := by kernel_rfl
theorem Try.cellsCf : Try.prog.cellsOf 30 = 9 := by kernel_rfl
/-- a list's length, as the reading tells it -/
def SL {H : Type} (d : DataW H) (n : Nat) : Prop := (d = .nil ∧ n = 0) ∨ ∃ es rest, d = .slice es rest ∧ es.length = n

section
variable {H : Type} {enc : TypeId × Value → H} {w : World} {base : Nat}
set_option maxRecDepth 100000 in
theorem int_of {n : Nat} {c : Value} {y : DataW H × List MemPlace} (h : DataW.trod enc Try.prog w 0 (fun _ => true) true n 3 [c] = some y) : ∃ a : Int, c = .int .i64 a ∧ -9223372036854775808 ≤ a ∧ a ≤ 9223372036854775807 := by
  obtain ⟨a, e, _, wa⟩ := DataW.trod_int Try.underlying3 h
  refine ⟨a, by injection e, ?_⟩
  simp only [Lit.wf, IntKind.min, IntKind.max, IntKind.signed, IntKind.bits, Bool.and_eq_true, decide_eq_true_eq, if_true] at wa
  have := wa.1
  have := wa.2
  omega
set_option maxRecDepth 100000 in
theorem sec_of {n : Nat} {cs : List Value} {y : DataW H × List MemPlace} (h : DataW.trod enc Try.prog w 0 (fun _ => true) true n 73 cs = some y) : ∃ s : Sec, cs = [.int .i64 s.kind, .int .i64 s.oc, .int .i64 s.line] ∧ I64 [s.kind, s.oc, s.line] := by
  obtain ⟨xs, m, _, hx, hlen, hxl, hf⟩ := DataW.trod_struct Try.underlying73 h
  rw [Try.cellsSec] at hlen
  match cs, hlen with
  | [c0, c1, c2], _ =>
    match xs, hxl with
    | [x0, x1, x2], _ =>
      have h0 : DataW.trod enc Try.prog w 0 (fun _ => true) true m 3 (([c0, c1, c2].drop 0).take (Try.prog.cellsOf 3)) = some x0 := hf 0 _ rfl
      have h1 : DataW.trod enc Try.prog w 0 (fun _ => true) true m 3 (([c0, c1, c2].drop 1).take (Try.prog.cellsOf 3)) = some x1 := hf 1 _ rfl
      have h2 : DataW.trod enc Try.prog w 0 (fun _ => true) true m 3 (([c0, c1, c2].drop 2).take (Try.prog.cellsOf 3)) = some x2 := hf 2 _ rfl
      rw [Try.cellInt] at h0 h1 h2
      obtain ⟨a, rfl, na⟩ := int_of (show DataW.trod enc Try.prog w 0 (fun _ => true) true m 3 [c0] = some x0 from h0)
      obtain ⟨b, rfl, nb⟩ := int_of (show DataW.trod enc Try.prog w 0 (fun _ => true) true m 3 [c1] = some x1 from h1)
      obtain ⟨c, rfl, nc⟩ := int_of (show DataW.trod enc Try.prog w 0 (fun _ => true) true m 3 [c2] = some x2 from h2)
      exact ⟨⟨a, b, c⟩, rfl, fun n hn => by simp only [List.mem_cons, List.not_mem_nil, or_false] at hn; rcases hn with rfl | rfl | rfl <;> assumption⟩
set_option maxRecDepth 100000 in
theorem jo_of {n : Nat} {cs : List Value} {y : DataW H × List MemPlace} (h : DataW.trod enc Try.prog w 0 (fun _ => true) true n 75 cs = some y) : ∃ s : Jo, cs = [.int .i64 s.a, .int .i64 s.ae, .int .i64 s.b, .int .i64 s.be] ∧ I64 [s.a, s.ae, s.b, s.be] := by
  obtain ⟨xs, m, _, hx, hlen, hxl, hf⟩ := DataW.trod_struct Try.underlying75 h
  rw [Try.cellsJo] at hlen
  match cs, hlen with
  | [c0, c1, c2, c3], _ =>
    match xs, hxl with
    | [x0, x1, x2, x3], _ =>
      have h0 : DataW.trod enc Try.prog w 0 (fun _ => true) true m 3 (([c0, c1, c2, c3].drop 0).take (Try.prog.cellsOf 3)) = some x0 := hf 0 _ rfl
      have h1 : DataW.trod enc Try.prog w 0 (fun _ => true) true m 3 (([c0, c1, c2, c3].drop 1).take (Try.prog.cellsOf 3)) = some x1 := hf 1 _ rfl
      have h2 : DataW.trod enc Try.prog w 0 (fun _ => true) true m 3 (([c0, c1, c2, c3].drop 2).take (Try.prog.cellsOf 3)) = some x2 := hf 2 _ rfl
      have h3 : DataW.trod enc Try.prog w 0 (fun _ => true) true m 3 (([c0, c1, c2, c3].drop 3).take (Try.prog.cellsOf 3)) = some x3 := hf 3 _ rfl
      rw [Try.cellInt] at h0 h1 h2 h3
      obtain ⟨a, rfl, na⟩ := int_of (show DataW.trod enc Try.prog w 0 (fun _ => true) true m 3 [c0] = some x0 from h0)
      obtain ⟨b, rfl, nb⟩ := int_of (show DataW.trod enc Try.prog w 0 (fun _ => true) true m 3 [c1] = some x1 from h1)
      obtain ⟨c, rfl, nc⟩ := int_of (show DataW.trod enc Try.prog w 0 (fun _ => true) true m 3 [c2] = some x2 from h2)
      obtain ⟨d, rfl, nd⟩ := int_of (show DataW.trod enc Try.prog w 0 (fun _ => true) true m 3 [c3] = some x3 from h3)
      exact ⟨⟨a, b, c, d⟩, rfl, fun n hn => by simp only [List.mem_cons, List.not_mem_nil, or_false] at hn; rcases hn with rfl | rfl | rfl | rfl <;> assumption⟩

theorem exists_fun {α : Type} [Inhabited α] {m : Nat} {Q : Nat → α → Prop} (h : ∀ i, i < m → ∃ a, Q i a) : ∃ f : Nat → α, ∀ i, i < m → Q i (f i) := by
  classical
  refine ⟨fun i => if hi : i < m then (h i hi).choose else default, fun i hi => ?_⟩
  simp only [hi, dif_pos]
  exact (h i hi).choose_spec
/-- a flat list of cells, place by place -/
theorem flat_at {α : Type} (g : α → List Value) (size : Nat) (hg : ∀ a, (g a).length = size) : ∀ (l : List α) (j : Nat) (u : Value), (l.flatMap g)[j]? = some u → ∃ i k, j = i * size + k ∧ k < size ∧ ∃ h : i < l.length, (g l[i])[k]? = some u
  | [], j, u, h => by simp at h
  | a :: r, j, u, h => by
    rw [List.flatMap_cons] at h
    by_cases hj : j < size
    · rw [List.getElem?_append_left (by rw [hg]; exact hj)] at h
      exact ⟨0, j, by omega, hj, by simp, h⟩
    · rw [List.getElem?_append_right (by rw [hg]; omega), hg] at h
      obtain ⟨i, k, e, hk, hi, hu⟩ := flat_at g size hg r (j - size) u h
      exact ⟨i + 1, k, by rw [Nat.add_mul]; omega, hk, by simpa using hi, by simpa using hu⟩
set_option maxRecDepth 100000 in
theorem sg_of {n : Nat} {cs : List Value} {y : DataW H × List MemPlace} (h : DataW.trod enc Try.prog w 0 (fun _ => true) true n 77 cs = some y) : ∃ s : Sg, cs = [.int .i64 s.sec, .int .i64 s.fin] ∧ I64 [s.sec, s.fin] := by
  obtain ⟨xs, m, _, hx, hlen, hxl, hf⟩ := DataW.trod_struct Try.underlying77 h
  rw [Try.cellsSg] at hlen
  match cs, hlen with
  | [c0, c1], _ =>
    match xs, hxl with
    | [x0, x1], _ =>
      have h0 : DataW.trod enc Try.prog w 0 (fun _ => true) true m 3 (([c0, c1].drop 0).take (Try.prog.cellsOf 3)) = some x0 := hf 0 _ rfl
      have h1 : DataW.trod enc Try.prog w 0 (fun _ => true) true m 3 (([c0, c1].drop 1).take (Try.prog.cellsOf 3)) = some x1 := hf 1 _ rfl
      rw [Try.cellInt] at h0 h1
      obtain ⟨a0, rfl, na0⟩ := int_of (show DataW.trod enc Try.prog w 0 (fun _ => true) true m 3 [c0] = some x0 from h0)
      obtain ⟨a1, rfl, na1⟩ := int_of (show DataW.trod enc Try.prog w 0 (fun _ => true) true m 3 [c1] = some x1 from h1)
      exact ⟨⟨a0, a1⟩, rfl, fun n hn => by simp only [List.mem_cons, List.not_mem_nil, or_false] at hn; rcases hn with rfl | rfl <;> assumption⟩
set_option maxRecDepth 100000 in
theorem st_of {n : Nat} {cs : List Value} {y : DataW H × List MemPlace} (h : DataW.trod enc Try.prog w 0 (fun _ => true) true n 79 cs = some y) : ∃ s : St, cs = [.int .i64 s.sec, .int .i64 s.inn, .int .i64 s.out] ∧ I64 [s.sec, s.inn, s.out] := by
  obtain ⟨xs, m, _, hx, hlen, hxl, hf⟩ := DataW.trod_struct Try.underlying79 h
  rw [Try.cellsSt] at hlen
  match cs, hlen with
  | [c0, c1, c2], _ =>
    match xs, hxl with
    | [x0, x1, x2], _ =>
      have h0 : DataW.trod enc Try.prog w 0 (fun _ => true) true m 3 (([c0, c1, c2].drop 0).take (Try.prog.cellsOf 3)) = some x0 := hf 0 _ rfl
      have h1 : DataW.trod enc Try.prog w 0 (fun _ => true) true m 3 (([c0, c1, c2].drop 1).take (Try.prog.cellsOf 3)) = some x1 := hf 1 _ rfl
      have h2 : DataW.trod enc Try.prog w 0 (fun _ => true) true m 3 (([c0, c1, c2].drop 2).take (Try.prog.cellsOf 3)) = some x2 := hf 2 _ rfl
      rw [Try.cellInt] at h0 h1 h2
      obtain ⟨a0, rfl, na0⟩ := int_of (show DataW.trod enc Try.prog w 0 (fun _ => true) true m 3 [c0] = some x0 from h0)
      obtain ⟨a1, rfl, na1⟩ := int_of (show DataW.trod enc Try.prog w 0 (fun _ => true) true m 3 [c1] = some x1 from h1)
      obtain ⟨a2, rfl, na2⟩ := int_of (show DataW.trod enc Try.prog w 0 (fun _ => true) true m 3 [c2] = some x2 from h2)
      exact ⟨⟨a0, a1, a2⟩, rfl, fun n hn => by simp only [List.mem_cons, List.not_mem_nil, or_false] at hn; rcases hn with rfl | rfl | rfl <;> assumption⟩
set_option maxRecDepth 100000 in
theorem nd_of {n : Nat} {cs : List Value} {y : DataW H × List MemPlace} (h : DataW.trod enc Try.prog w 0 (fun _ => true) true n 120 cs = some y) : ∃ s : Nd, cs = [.int .i64 s.sec, .int .i64 s.pos] ∧ I64 [s.sec, s.pos] := by
  obtain ⟨xs, m, _, hx, hlen, hxl, hf⟩ := DataW.trod_struct Try.underlying120 h
  rw [Try.cellsNd] at hlen
  match cs, hlen with
  | [c0, c1], _ =>
    match xs, hxl with
    | [x0, x1], _ =>
      have h0 : DataW.trod enc Try.prog w 0 (fun _ => true) true m 3 (([c0, c1].drop 0).take (Try.prog.cellsOf 3)) = some x0 := hf 0 _ rfl
      have h1 : DataW.trod enc Try.prog w 0 (fun _ => true) true m 3 (([c0, c1].drop 1).take (Try.prog.cellsOf 3)) = some x1 := hf 1 _ rfl
      rw [Try.cellInt] at h0 h1
      obtain ⟨a0, rfl, na0⟩ := int_of (show DataW.trod enc Try.prog w 0 (fun _ => true) true m 3 [c0] = some x0 from h0)
      obtain ⟨a1, rfl, na1⟩ := int_of (show DataW.trod enc Try.prog w 0 (fun _ => true) true m 3 [c1] = some x1 from h1)
      exact ⟨⟨a0, a1⟩, rfl, fun n hn => by simp only [List.mem_cons, List.not_mem_nil, or_false] at hn; rcases hn with rfl | rfl <;> assumption⟩
set_option maxRecDepth 100000 in
theorem tm_of {n : Nat} {cs : List Value} {y : DataW H × List MemPlace} (h : DataW.trod enc Try.prog w 0 (fun _ => true) true n 28 cs = some y) : ∃ s : Tm, cs = [.int .i64 s.age, .int .i64 s.brake, .int .i64 s.hold, .int .i64 s.budget] ∧ I64 [s.age, s.brake, s.hold, s.budget] := by
  obtain ⟨xs, m, _, hx, hlen, hxl, hf⟩ := DataW.trod_struct Try.underlying28 h
  rw [Try.cellsTm] at hlen
  match cs, hlen with
  | [c0, c1, c2, c3], _ =>
    match xs, hxl with
    | [x0, x1, x2, x3], _ =>
      have h0 : DataW.trod enc Try.prog w 0 (fun _ => true) true m 3 (([c0, c1, c2, c3].drop 0).take (Try.prog.cellsOf 3)) = some x0 := hf 0 _ rfl
      have h1 : DataW.trod enc Try.prog w 0 (fun _ => true) true m 3 (([c0, c1, c2, c3].drop 1).take (Try.prog.cellsOf 3)) = some x1 := hf 1 _ rfl
      have h2 : DataW.trod enc Try.prog w 0 (fun _ => true) true m 3 (([c0, c1, c2, c3].drop 2).take (Try.prog.cellsOf 3)) = some x2 := hf 2 _ rfl
      have h3 : DataW.trod enc Try.prog w 0 (fun _ => true) true m 3 (([c0, c1, c2, c3].drop 3).take (Try.prog.cellsOf 3)) = some x3 := hf 3 _ rfl
      rw [Try.cellInt] at h0 h1 h2 h3
      obtain ⟨a0, rfl, na0⟩ := int_of (show DataW.trod enc Try.prog w 0 (fun _ => true) true m 3 [c0] = some x0 from h0)
      obtain ⟨a1, rfl, na1⟩ := int_of (show DataW.trod enc Try.prog w 0 (fun _ => true) true m 3 [c1] = some x1 from h1)
      obtain ⟨a2, rfl, na2⟩ := int_of (show DataW.trod enc Try.prog w 0 (fun _ => true) true m 3 [c2] = some x2 from h2)
      obtain ⟨a3, rfl, na3⟩ := int_of (show DataW.trod enc Try.prog w 0 (fun _ => true) true m 3 [c3] = some x3 from h3)
      exact ⟨⟨a0, a1, a2, a3⟩, rfl, fun n hn => by simp only [List.mem_cons, List.not_mem_nil, or_false] at hn; rcases hn with rfl | rfl | rfl | rfl <;> assumption⟩
set_option maxRecDepth 100000 in
/-- A slice of structs that came in: read as a flat row. -/
theorem open_flatQ {α : Type} [Inhabited α] {t e : TypeId} (Q : α → DataW H → Prop) {n : Nat} {v : Value} {y : DataW H × List MemPlace} (size : Nat) (g : α → List Value) (hg : ∀ a, (g a).length = size) (ht : Try.prog.underlying t = some (.slice e)) (hc : Try.prog.cellsOf e = size)
    (hof : ∀ (n : Nat) (cs : List Value) (y : DataW H × List MemPlace), DataW.trod enc Try.prog w 0 (fun _ => true) true n e cs = some y → ∃ a : α, cs = g a ∧ Q a y.1) (h : DataW.trod enc Try.prog w 0 (fun _ => true) true n t [v] = some y) :
    ∃ (A : Option Addr) (c : Nat) (l : List α), v = .slice A l.length c ∧ Rd w A (l.flatMap g) ∧ l.length ≤ c ∧ c ≤ maxLen ∧ ((y.1 = .nil ∧ l = []) ∨ ∃ es rest, y.1 = .slice es rest ∧ es.length = l.length ∧ ∀ i (hi : i < l.length), ∃ x, es[i]? = some x ∧ Q l[i] x) := by
  rcases open_slice ht h with ⟨hcs, hx⟩ | ⟨a, len, cap, m, n', D, Pl, hcs, hb, hl, hm, hmm, hx, hi⟩
  · simp only [List.cons.injEq, and_true] at hcs
    exact ⟨none, 0, [], hcs, fun h => by simp at h, Nat.zero_le _, Nat.zero_le _, .inl ⟨by rw [hx], rfl⟩⟩
  · simp only [List.cons.injEq, and_true] at hcs
    have hmc : m = cap := by simpa using hmm
    subst hmc
    rw [hc] at hi
    have hq : ∀ i, i < len → ∃ x : α, (∀ j, j < size → w.cell? ((a.add (i * size)).add j) = (g x)[j]?) ∧ Q x (D i) := by
      intro i hil
      obtain ⟨cs', hc', ht'⟩ := hi i (by omega)
      obtain ⟨x, rfl, hQ⟩ := hof _ _ _ ht'
      exact ⟨x, (World.cells?_some hc').2.2, hQ⟩
    obtain ⟨f, hfn⟩ := exists_fun hq
    refine ⟨some a, m, (List.range len).map f, by simp [hcs], rd_of fun j u hu => ?_, by simpa using hl, hm, .inr ⟨_, _, by rw [hx], by simp, fun i hi' => ?_⟩⟩
    · obtain ⟨i, k, rfl, hk, hil, hu⟩ := flat_at g size hg _ j u hu
      have hil' : i < len := by simpa using hil
      have := (hfn i hil').1 k hk
      rw [← Go.Deep.add_add, this]
      simpa using hu
    · have hil : i < len := by simpa using hi'
      refine ⟨D i, by simp [hil], ?_⟩
      simp only [List.getElem_map, List.getElem_range]
      exact (hfn i hil).2
set_option maxRecDepth 100000 in
theorem open_secs {n : Nat} {v : Value} {y : DataW H × List MemPlace} (h : DataW.trod enc Try.prog w 0 (fun _ => true) true n 22 [v] = some y) :
    ∃ (A : Option Addr) (c : Nat) (l : List Sec), v = .slice A l.length c ∧ Rd w A (cellsS l) ∧ l.length ≤ c ∧ c ≤ maxLen ∧ SL y.1 l.length ∧ ∀ s ∈ l, I64 [s.kind, s.oc, s.line] := by
  obtain ⟨A, c, l, e, r, k, m, s⟩ := open_flatQ (fun (s : Sec) _ => I64 [s.kind, s.oc, s.line]) 3 (fun s : Sec => [.int .i64 s.kind, .int .i64 s.oc, .int .i64 s.line]) (fun _ => rfl) Try.underlying22 Try.cellsSec (fun _ _ _ h => by obtain ⟨a, e, k⟩ := sec_of h; exact ⟨a, e, k⟩) h
  refine ⟨A, c, l, e, r, k, m, ?_⟩
  rcases s with ⟨a, b⟩ | ⟨es, rest, a, b, q⟩
  · exact ⟨.inl ⟨a, by rw [b]; rfl⟩, fun s hs => by rw [b] at hs; cases hs⟩
  · refine ⟨.inr ⟨es, rest, a, b⟩, fun s hs => ?_⟩
    obtain ⟨i, hi, rfl⟩ := List.getElem_of_mem hs
    obtain ⟨_, _, k⟩ := q i hi
    exact k
set_option maxRecDepth 100000 in
theorem open_jos {n : Nat} {v : Value} {y : DataW H × List MemPlace} (h : DataW.trod enc Try.prog w 0 (fun _ => true) true n 23 [v] = some y) :
    ∃ (A : Option Addr) (c : Nat) (l : List Jo), v = .slice A l.length c ∧ Rd w A (cellsJ l) ∧ l.length ≤ c ∧ c ≤ maxLen ∧ SL y.1 l.length ∧ ∀ s ∈ l, I64 [s.a, s.ae, s.b, s.be] := by
  obtain ⟨A, c, l, e, r, k, m, s⟩ := open_flatQ (fun (s : Jo) _ => I64 [s.a, s.ae, s.b, s.be]) 4 (fun s : Jo => [.int .i64 s.a, .int .i64 s.ae, .int .i64 s.b, .int .i64 s.be]) (fun _ => rfl) Try.underlying23 Try.cellsJo (fun _ _ _ h => by obtain ⟨a, e, k⟩ := jo_of h; exact ⟨a, e, k⟩) h
  refine ⟨A, c, l, e, r, k, m, ?_⟩
  rcases s with ⟨a, b⟩ | ⟨es, rest, a, b, q⟩
  · exact ⟨.inl ⟨a, by rw [b]; rfl⟩, fun s hs => by rw [b] at hs; cases hs⟩
  · refine ⟨.inr ⟨es, rest, a, b⟩, fun s hs => ?_⟩
    obtain ⟨i, hi, rfl⟩ := List.getElem_of_mem hs
    obtain ⟨_, _, k⟩ := q i hi
    exact k
set_option maxRecDepth 100000 in
theorem open_sgs {n : Nat} {v : Value} {y : DataW H × List MemPlace} (h : DataW.trod enc Try.prog w 0 (fun _ => true) true n 24 [v] = some y) :
    ∃ (A : Option Addr) (c : Nat) (l : List Sg), v = .slice A l.length c ∧ Rd w A (cellsG l) ∧ l.length ≤ c ∧ c ≤ maxLen ∧ SL y.1 l.length ∧ ∀ s ∈ l, I64 [s.sec, s.fin] := by
  obtain ⟨A, c, l, e, r, k, m, s⟩ := open_flatQ (fun (s : Sg) _ => I64 [s.sec, s.fin]) 2 (fun s : Sg => [.int .i64 s.sec, .int .i64 s.fin]) (fun _ => rfl) Try.underlying24 Try.cellsSg (fun _ _ _ h => by obtain ⟨a, e, k⟩ := sg_of h; exact ⟨a, e, k⟩) h
  refine ⟨A, c, l, e, r, k, m, ?_⟩
  rcases s with ⟨a, b⟩ | ⟨es, rest, a, b, q⟩
  · exact ⟨.inl ⟨a, by rw [b]; rfl⟩, fun s hs => by rw [b] at hs; cases hs⟩
  · refine ⟨.inr ⟨es, rest, a, b⟩, fun s hs => ?_⟩
    obtain ⟨i, hi, rfl⟩ := List.getElem_of_mem hs
    obtain ⟨_, _, k⟩ := q i hi
    exact k
set_option maxRecDepth 100000 in
theorem open_sts {n : Nat} {v : Value} {y : DataW H × List MemPlace} (h : DataW.trod enc Try.prog w 0 (fun _ => true) true n 80 [v] = some y) :
    ∃ (A : Option Addr) (c : Nat) (l : List St), v = .slice A l.length c ∧ Rd w A (cellsT l) ∧ l.length ≤ c ∧ c ≤ maxLen ∧ SL y.1 l.length ∧ ∀ s ∈ l, I64 [s.sec, s.inn, s.out] := by
  obtain ⟨A, c, l, e, r, k, m, s⟩ := open_flatQ (fun (s : St) _ => I64 [s.sec, s.inn, s.out]) 3 (fun s : St => [.int .i64 s.sec, .int .i64 s.inn, .int .i64 s.out]) (fun _ => rfl) Try.underlying80 Try.cellsSt (fun _ _ _ h => by obtain ⟨a, e, k⟩ := st_of h; exact ⟨a, e, k⟩) h
  refine ⟨A, c, l, e, r, k, m, ?_⟩
  rcases s with ⟨a, b⟩ | ⟨es, rest, a, b, q⟩
  · exact ⟨.inl ⟨a, by rw [b]; rfl⟩, fun s hs => by rw [b] at hs; cases hs⟩
  · refine ⟨.inr ⟨es, rest, a, b⟩, fun s hs => ?_⟩
    obtain ⟨i, hi, rfl⟩ := List.getElem_of_mem hs
    obtain ⟨_, _, k⟩ := q i hi
    exact k
set_option maxRecDepth 100000 in
theorem open_nds {n : Nat} {v : Value} {y : DataW H × List MemPlace} (h : DataW.trod enc Try.prog w 0 (fun _ => true) true n 81 [v] = some y) :
    ∃ (A : Option Addr) (c : Nat) (l : List Nd), v = .slice A l.length c ∧ Rd w A (cellsN l) ∧ l.length ≤ c ∧ c ≤ maxLen ∧ SL y.1 l.length ∧ ∀ s ∈ l, I64 [s.sec, s.pos] := by
  obtain ⟨A, c, l, e, r, k, m, s⟩ := open_flatQ (fun (s : Nd) _ => I64 [s.sec, s.pos]) 2 (fun s : Nd => [.int .i64 s.sec, .int .i64 s.pos]) (fun _ => rfl) Try.underlying81 Try.cellsNd (fun _ _ _ h => by obtain ⟨a, e, k⟩ := nd_of h; exact ⟨a, e, k⟩) h
  refine ⟨A, c, l, e, r, k, m, ?_⟩
  rcases s with ⟨a, b⟩ | ⟨es, rest, a, b, q⟩
  · exact ⟨.inl ⟨a, by rw [b]; rfl⟩, fun s hs => by rw [b] at hs; cases hs⟩
  · refine ⟨.inr ⟨es, rest, a, b⟩, fun s hs => ?_⟩
    obtain ⟨i, hi, rfl⟩ := List.getElem_of_mem hs
    obtain ⟨_, _, k⟩ := q i hi
    exact k
set_option maxRecDepth 100000 in
theorem open_nums {n : Nat} {v : Value} {y : DataW H × List MemPlace} (h : DataW.trod enc Try.prog w 0 (fun _ => true) true n 25 [v] = some y) :
    ∃ (A : Option Addr) (c : Nat) (l : List Int), v = .slice A l.length c ∧ Rd w A (l.map (Value.int .i64)) ∧ l.length ≤ c ∧ c ≤ maxLen ∧ SL y.1 l.length ∧ I64 l := by
  rcases open_ints Try.underlying25 Try.underlying3 Try.cellInt h with ⟨hcs, hd⟩ | ⟨a, len, cap, zs, hcs, _, hl, hm, hz, hd, hcell, hwf⟩
  · exact ⟨none, 0, [], by simpa using hcs, (fun h => by simp at h), Nat.le_refl _, Nat.zero_le _, .inl ⟨by rw [hd], rfl⟩, fun n hn => by cases hn⟩
  · have hzc : zs.length = cap := by simpa using hz
    have hlen' : (zs.take len).length = len := by rw [List.length_take]; omega
    refine ⟨some a, cap, zs.take len, by rw [hlen']; simpa using hcs, rd_of fun i u hu => ?_, by rw [hlen']; exact hl, hm, .inr ⟨lits .i64 (zs.take len), lits .i64 (zs.drop len), by rw [hd], by rw [lits_len]⟩, fun n hn => by
      have wa := hwf n (List.mem_of_mem_take hn)
      simp only [Lit.wf, IntKind.min, IntKind.max, IntKind.signed, IntKind.bits, Bool.and_eq_true, decide_eq_true_eq, if_true] at wa
      have := wa.1
      have := wa.2
      omega⟩
    have hi : i < len := by
      have := (List.getElem?_eq_some_iff.1 hu).1
      rw [List.length_map, hlen'] at this
      exact this
    rw [hcell i (by omega)]
    rw [List.getElem?_map, List.getElem?_take, if_pos hi, List.getElem?_eq_getElem (by omega)] at hu
    simp only [Option.map_some, Option.some.injEq] at hu
    rw [← hu, List.getD_eq_getElem?_getD, List.getElem?_eq_getElem (by omega)]
    rfl
/-- a route that came in, but for its lists' sizes; and what the reading tells of it -/
def RoIn (w : World) (r : Ro) (d : DataW H) : Prop :=
  (Rd w r.a1 (cellsT r.path) ∧ Rd w r.a2 (cellsN r.flank) ∧ Rd w r.a3 (r.over.map (Value.int .i64)) ∧ r.path.length ≤ r.c1 ∧ r.flank.length ≤ r.c2 ∧ r.over.length ≤ r.c3 ∧ r.c1 ≤ maxLen ∧ r.c2 ≤ maxLen ∧ r.c3 ≤ maxLen) ∧
  ∃ d0 d1 d2 d3 d4 d5, d = .agg [d0, d1, d2, d3, d4, d5] ∧ SL d2 r.path.length ∧ SL d3 r.flank.length ∧ SL d4 r.over.length
def R64 (r : Ro) : Prop := I64 [r.entry, r.exit] ∧ (∀ s ∈ r.path, I64 [s.sec, s.inn, s.out]) ∧ (∀ s ∈ r.flank, I64 [s.sec, s.pos]) ∧ I64 r.over
theorem Try.cellsL1 : Try.prog.cellsOf 80 = 1 := by kernel_rfl
theorem Try.cellsL2 : Try.prog.cellsOf 81 = 1 := by kernel_rfl
theorem Try.cellsL3 : Try.prog.cellsOf 25 = 1 := by kernel_rfl
theorem Try.cellsBo : Try.prog.cellsOf 4 = 1 := by kernel_rfl
set_option maxRecDepth 100000 in
theorem ro_of {n : Nat} {cs : List Value} {y : DataW H × List MemPlace} (h : DataW.trod enc Try.prog w 0 (fun _ => true) true n 83 cs = some y) : ∃ r : Ro, cs = r.cells ∧ RoIn w r y.1 ∧ R64 r := by
  obtain ⟨xs, m, _, hx, hlen, hxl, hf⟩ := DataW.trod_struct Try.underlying83 h
  rw [Try.cellsRo] at hlen
  match cs, hlen with
  | [e0, e1, e2, e3, e4, e5], _ =>
    match xs, hxl with
    | [x0, x1, x2, x3, x4, x5], _ =>
      have h0 : DataW.trod enc Try.prog w 0 (fun _ => true) true m 3 (([e0, e1, e2, e3, e4, e5].drop 0).take (Try.prog.cellsOf 3)) = some x0 := hf 0 _ rfl
      have h1 : DataW.trod enc Try.prog w 0 (fun _ => true) true m 3 (([e0, e1, e2, e3, e4, e5].drop 1).take (Try.prog.cellsOf 3)) = some x1 := hf 1 _ rfl
      have h2 : DataW.trod enc Try.prog w 0 (fun _ => true) true m 80 (([e0, e1, e2, e3, e4, e5].drop 2).take (Try.prog.cellsOf 80)) = some x2 := hf 2 _ rfl
      have h3 : DataW.trod enc Try.prog w 0 (fun _ => true) true m 81 (([e0, e1, e2, e3, e4, e5].drop 3).take (Try.prog.cellsOf 81)) = some x3 := hf 3 _ rfl
      have h4 : DataW.trod enc Try.prog w 0 (fun _ => true) true m 25 (([e0, e1, e2, e3, e4, e5].drop 4).take (Try.prog.cellsOf 25)) = some x4 := hf 4 _ rfl
      have h5 : DataW.trod enc Try.prog w 0 (fun _ => true) true m 4 (([e0, e1, e2, e3, e4, e5].drop 5).take (Try.prog.cellsOf 4)) = some x5 := hf 5 _ rfl
      rw [Try.cellInt] at h0 h1
      rw [Try.cellsL1] at h2
      rw [Try.cellsL2] at h3
      rw [Try.cellsL3] at h4
      rw [Try.cellsBo] at h5
      obtain ⟨a0, rfl, na0⟩ := int_of (show DataW.trod enc Try.prog w 0 (fun _ => true) true m 3 [e0] = some x0 from h0)
      obtain ⟨a1, rfl, na1⟩ := int_of (show DataW.trod enc Try.prog w 0 (fun _ => true) true m 3 [e1] = some x1 from h1)
      obtain ⟨A1, k1, l1, rfl, r1, i1, m1, s1, q1⟩ := open_sts (show DataW.trod enc Try.prog w 0 (fun _ => true) true m 80 [e2] = some x2 from h2)
      obtain ⟨A2, k2, l2, rfl, r2, i2, m2, s2, q2⟩ := open_nds (show DataW.trod enc Try.prog w 0 (fun _ => true) true m 81 [e3] = some x3 from h3)
      obtain ⟨A3, k3, l3, rfl, r3, i3, m3, s3, q3⟩ := open_nums (show DataW.trod enc Try.prog w 0 (fun _ => true) true m 25 [e4] = some x4 from h4)
      obtain ⟨b, eb, _⟩ := DataW.trod_bool Try.underlying4 (show DataW.trod enc Try.prog w 0 (fun _ => true) true m 4 [e5] = some x5 from h5)
      have eb : e5 = .bool b := by simpa using eb
      subst eb
      exact ⟨⟨a0, a1, A1, k1, l1, A2, k2, l2, A3, k3, l3, b⟩, rfl, ⟨⟨r1, r2, r3, i1, i2, i3, m1, m2, m3⟩, _, _, _, _, _, _, by rw [hx]; rfl, s1, s2, s3⟩, fun n hn => by simp only [List.mem_cons, List.not_mem_nil, or_false] at hn; rcases hn with rfl | rfl <;> assumption, q1, q2, q3⟩
set_option maxRecDepth 100000 in
theorem open_ros {n : Nat} {v : Value} {y : DataW H × List MemPlace} (h : DataW.trod enc Try.prog w 0 (fun _ => true) true n 26 [v] = some y) :
    ∃ (A : Option Addr) (c : Nat) (l : List Ro), v = .slice A l.length c ∧ Rd w A (cellsR l) ∧ l.length ≤ c ∧ c ≤ maxLen ∧ ((y.1 = .nil ∧ l = []) ∨ ∃ es rest, y.1 = .slice es rest ∧ es.length = l.length ∧ ∀ i (hi : i < l.length), ∃ x, es[i]? = some x ∧ RoIn w l[i] x ∧ R64 l[i]) :=
  open_flatQ (fun r x => RoIn w r x ∧ R64 r) 6 Ro.cells (fun _ => rfl) Try.underlying26 Try.cellsRo (fun _ _ _ h => ro_of h) h
/-- a configuration that came in, but for its lists' sizes; and what the reading tells of it -/
structure CfIn (w : World) (C : Cm) (d : DataW H) : Prop where
  secs : Rd w C.A1 (cellsS C.l)
  jos : Rd w C.A2 (cellsJ C.js)
  sigs : Rd w C.A3 (cellsG C.sg)
  crs : Rd w C.A4 (C.cr.map (Value.int .i64))
  rts : Rd w C.A5 (cellsR C.rs)
  l1 : C.l.length ≤ C.c1
  l2 : C.js.length ≤ C.c2
  l3 : C.sg.length ≤ C.c3
  l4 : C.cr.length ≤ C.c4
  l5 : C.rs.length ≤ C.c5
  n64 : (∀ s ∈ C.l, I64 [s.kind, s.oc, s.line]) ∧ (∀ s ∈ C.js, I64 [s.a, s.ae, s.b, s.be]) ∧ (∀ s ∈ C.sg, I64 [s.sec, s.fin]) ∧ I64 C.cr ∧ (∀ r ∈ C.rs, R64 r) ∧ I64 [C.tm.age, C.tm.brake, C.tm.hold, C.tm.budget]
  m1 : C.c1 ≤ maxLen
  m2 : C.c2 ≤ maxLen
  m3 : C.c3 ≤ maxLen
  m4 : C.c4 ≤ maxLen
  m5 : C.c5 ≤ maxLen
  data : ∃ d1 d2 d3 d4 d5 d6, d = .agg [d1, d2, d3, d4, d5, d6] ∧ SL d1 C.l.length ∧ SL d2 C.js.length ∧ SL d3 C.sg.length ∧ SL d4 C.cr.length ∧ ((d5 = .nil ∧ C.rs = []) ∨ ∃ es rest, d5 = .slice es rest ∧ es.length = C.rs.length ∧ ∀ i (hi : i < C.rs.length), ∃ x, es[i]? = some x ∧ RoIn w C.rs[i] x)
theorem Try.cellsK1 : Try.prog.cellsOf 22 = 1 := by kernel_rfl
theorem Try.cellsK2 : Try.prog.cellsOf 23 = 1 := by kernel_rfl
theorem Try.cellsK3 : Try.prog.cellsOf 24 = 1 := by kernel_rfl
theorem Try.cellsK5 : Try.prog.cellsOf 26 = 1 := by kernel_rfl
set_option maxRecDepth 100000 in
set_option maxHeartbeats 1000000 in
theorem open_conf {v : Value} {d : DataW H} {ps : List MemPlace} (hv : Value.okWide Try.prog w .any base 30 v) (h : DataW.Trod enc Try.prog w 0 (fun _ => true) true 30 v d ps) : ∃ C : Cm, v = C.val ∧ CfIn w C d := by
  simp only [Value.okWide, Try.underlying30] at hv
  obtain ⟨cs, rfl, hcs, _⟩ := hv
  obtain ⟨fuel, hf0⟩ := h
  obtain ⟨l⟩ := cs
  obtain ⟨xs, m, _, hx, hlen, hxl, hf⟩ := DataW.trod_struct Try.underlying30 hf0
  rw [Try.cellsCf] at hlen
  match l, hlen with
  | [e0, e1, e2, e3, e4, e5, e6, e7, e8], _ =>
    match xs, hxl with
    | [x0, x1, x2, x3, x4, x5], _ =>
      have h0 : DataW.trod enc Try.prog w 0 (fun _ => true) true m 22 (([e0, e1, e2, e3, e4, e5, e6, e7, e8].drop 0).take (Try.prog.cellsOf 22)) = some x0 := hf 0 _ rfl
      have h1 : DataW.trod enc Try.prog w 0 (fun _ => true) true m 23 (([e0, e1, e2, e3, e4, e5, e6, e7, e8].drop 1).take (Try.prog.cellsOf 23)) = some x1 := hf 1 _ rfl
      have h2 : DataW.trod enc Try.prog w 0 (fun _ => true) true m 24 (([e0, e1, e2, e3, e4, e5, e6, e7, e8].drop 2).take (Try.prog.cellsOf 24)) = some x2 := hf 2 _ rfl
      have h3 : DataW.trod enc Try.prog w 0 (fun _ => true) true m 25 (([e0, e1, e2, e3, e4, e5, e6, e7, e8].drop 3).take (Try.prog.cellsOf 25)) = some x3 := hf 3 _ rfl
      have h4 : DataW.trod enc Try.prog w 0 (fun _ => true) true m 26 (([e0, e1, e2, e3, e4, e5, e6, e7, e8].drop 4).take (Try.prog.cellsOf 26)) = some x4 := hf 4 _ rfl
      have h5 : DataW.trod enc Try.prog w 0 (fun _ => true) true m 28 (([e0, e1, e2, e3, e4, e5, e6, e7, e8].drop 5).take (Try.prog.cellsOf 28)) = some x5 := hf 5 _ rfl
      rw [Try.cellsK1] at h0
      rw [Try.cellsK2] at h1
      rw [Try.cellsK3] at h2
      rw [Try.cellsL3] at h3
      rw [Try.cellsK5] at h4
      rw [Try.cellsTm] at h5
      obtain ⟨A1, k1, l1, rfl, r1, i1, m1, s1, q1⟩ := open_secs (show DataW.trod enc Try.prog w 0 (fun _ => true) true m 22 [e0] = some x0 from h0)
      obtain ⟨A2, k2, l2, rfl, r2, i2, m2, s2, q2⟩ := open_jos (show DataW.trod enc Try.prog w 0 (fun _ => true) true m 23 [e1] = some x1 from h1)
      obtain ⟨A3, k3, l3, rfl, r3, i3, m3, s3, q3⟩ := open_sgs (show DataW.trod enc Try.prog w 0 (fun _ => true) true m 24 [e2] = some x2 from h2)
      obtain ⟨A4, k4, l4, rfl, r4, i4, m4, s4, q4⟩ := open_nums (show DataW.trod enc Try.prog w 0 (fun _ => true) true m 25 [e3] = some x3 from h3)
      obtain ⟨A5, k5, l5, rfl, r5, i5, m5, s5⟩ := open_ros (show DataW.trod enc Try.prog w 0 (fun _ => true) true m 26 [e4] = some x4 from h4)
      obtain ⟨t, et, qt⟩ := tm_of (show DataW.trod enc Try.prog w 0 (fun _ => true) true m 28 [e5, e6, e7, e8] = some x5 from h5)
      injection et with t0 et
      injection et with t1 et
      injection et with t2 et
      injection et with t3 _
      subst t0 t1 t2 t3
      have hd : d = .agg [x0.1, x1.1, x2.1, x3.1, x4.1, x5.1] := by
        have := congrArg Prod.fst hx
        exact this
      exact ⟨⟨A1, k1, l1, A2, k2, l2, A3, k3, l3, A4, k4, l4, A5, k5, l5, t⟩, rfl, ⟨r1, r2, r3, r4, r5, i1, i2, i3, i4, i5, ⟨q1, q2, q3, q4, fun r hr => by
        rcases s5 with ⟨_, e⟩ | ⟨_, _, _, _, q⟩
        · rw [e] at hr; cases hr
        · obtain ⟨i, hi, rfl⟩ := List.getElem_of_mem hr
          obtain ⟨_, _, _, k⟩ := q i hi
          exact k, qt⟩, m1, m2, m3, m4, m5, x0.1, x1.1, x2.1, x3.1, x4.1, x5.1, hd, s1, s2, s3, s4, s5.imp (fun h => h) fun ⟨es, rest, a, b, q⟩ => ⟨es, rest, a, b, fun i hi => by obtain ⟨x, e, k, _⟩ := q i hi; exact ⟨x, e, k⟩⟩⟩⟩
end
end Go.Proofs.Ytnnacdkijeoeoaa

namespace Go.Proofs.Ytnnacdkijeoeoaa
open Go.ChangeShapes Go.WideShapes Go.ChangeAt Go.RowKit Go.Deep

theorem weights_all {H : Type} {P : Program} {e : TypeId} : ∀ {es : List (DataW H)} {i : Nat} {x : DataW H} {n : Nat}, es[i]? = some x → n ∈ x.weights P e → n ∈ DataW.weightsAll P e es
  | y :: es, 0, x, n, h, hn => by
    simp only [List.getElem?_cons_zero, Option.some.injEq] at h
    subst h
    simp only [DataW.weightsAll, List.mem_append]
    exact .inl hn
  | y :: es, i + 1, x, n, h, hn => by
    simp only [List.getElem?_cons_succ] at h
    simp only [DataW.weightsAll, List.mem_append]
    exact .inr (weights_all h hn)
  | [], _, _, _, h, _ => by simp at h
section
variable {H : Type}
theorem sl_weight {d : DataW H} {n b : Nat} {t e : TypeId} (s : SL d n) (ht : Try.prog.underlying t = some (.slice e)) (hb : Try.prog.bytesOf e = b) : n = 0 ∨ ∃ k, k ∈ d.weights Try.prog t ∧ n * b ≤ k := by
  rcases s with ⟨_, h⟩ | ⟨es, rest, rfl, h⟩
  · exact .inl h
  · refine .inr ⟨(es.length + rest.length) * b, ?_, ?_⟩
    · simp only [DataW.weights, ht, hb]
      simp
    · rw [← h]
      exact Nat.mul_le_mul_right _ (Nat.le_add_right _ _)
theorem sl_size {ts : List TypeId} {ds : List (DataW H)} (hsz : (DataW.weightsEach Try.prog ts ds).all (· ≤ reachBytes) = true) {d : DataW H} {n b : Nat} {t e : TypeId} (s : SL d n) (ht : Try.prog.underlying t = some (.slice e)) (hb : Try.prog.bytesOf e = b)
    (hin : ∀ k, k ∈ d.weights Try.prog t → k ∈ DataW.weightsEach Try.prog ts ds) : n * b ≤ 140737488351232 := by
  rcases sl_weight s ht hb with h | ⟨k, hk, hle⟩
  · rw [h]; omega
  · have := List.all_eq_true.1 hsz _ (hin k hk)
    simp only [decide_eq_true_eq] at this
    unfold reachBytes at this
    omega
theorem cf_field {ts : List TypeId} {ds : List (DataW H)} {j : Nat} {d1 d2 d3 d4 d5 d6 : DataW H} (ht : ts[j]? = some 30) (hd : ds[j]? = some (.agg [d1, d2, d3, d4, d5, d6])) {i : Nat} {t : TypeId} {di : DataW H} (hi : [22, 23, 24, 25, 26, 28][i]? = some t) (hdi : [d1, d2, d3, d4, d5, d6][i]? = some di) : ∀ k, k ∈ di.weights Try.prog t → k ∈ DataW.weightsEach Try.prog ts ds := fun k hk => by
  refine DataW.weights_mem_each ht hd _ ?_
  simp only [DataW.weights, Try.underlying30]
  exact DataW.weights_mem_each hi hdi _ hk
theorem ro_field {es rest : List (DataW H)} {j : Nat} {d1 d2 d3 d4 d5 d6 : DataW H} (hd : es[j]? = some (.agg [d1, d2, d3, d4, d5, d6])) {i : Nat} {t : TypeId} {di : DataW H} (hi : [3, 3, 80, 81, 25, 4][i]? = some t) (hdi : [d1, d2, d3, d4, d5, d6][i]? = some di) : ∀ k, k ∈ di.weights Try.prog t → k ∈ (DataW.slice es rest : DataW H).weights Try.prog 26 := fun k hk => by
  simp only [DataW.weights, Try.underlying26]
  refine List.mem_cons_of_mem _ (List.mem_append.2 (.inl (weights_all hd ?_)))
  simp only [DataW.weights, Try.underlying83]
  exact DataW.weights_mem_each hi hdi _ hk
theorem Try.by1 : Try.prog.bytesOf 73 = 24 := by kernel_rfl
theorem Try.by2 : Try.prog.bytesOf 75 = 32 := by kernel_rfl
theorem Try.by3 : Try.prog.bytesOf 77 = 16 := by kernel_rfl
theorem Try.by4 : Try.prog.bytesOf 3 = 8 := by kernel_rfl
theorem Try.by5 : Try.prog.bytesOf 83 = 96 := by kernel_rfl
theorem Try.by6 : Try.prog.bytesOf 79 = 24 := by kernel_rfl
theorem Try.by7 : Try.prog.bytesOf 120 = 16 := by kernel_rfl
/-- what came in is a configuration that the contracts take -/
theorem conf_ok {w : World} {C : Cm} {d : DataW H} {ts : List TypeId} {ds : List (DataW H)} {j : Nat} (h : CfIn w C d) (hsz : (DataW.weightsEach Try.prog ts ds).all (· ≤ reachBytes) = true) (ht : ts[j]? = some 30) (hd : ds[j]? = some d) : C.Ok w := by
  obtain ⟨d1, d2, d3, d4, d5, d6, rfl, s1, s2, s3, s4, s5⟩ := h.data
  have m1 := h.m1
  have m2 := h.m2
  have m3 := h.m3
  have m4 := h.m4
  have m5 := h.m5
  unfold maxLen at m1 m2 m3 m4 m5
  have b1 := sl_size hsz s1 Try.underlying22 Try.by1 (cf_field ht hd (i := 0) rfl rfl)
  have b2 := sl_size hsz s2 Try.underlying23 Try.by2 (cf_field ht hd (i := 1) rfl rfl)
  have b3 := sl_size hsz s3 Try.underlying24 Try.by3 (cf_field ht hd (i := 2) rfl rfl)
  have b4 := sl_size hsz s4 Try.underlying25 Try.by4 (cf_field ht hd (i := 3) rfl rfl)
  have s5' : SL d5 C.rs.length := by
    rcases s5 with ⟨a, b⟩ | ⟨es, rest, a, b, _⟩
    · exact .inl ⟨a, by rw [b]; rfl⟩
    · exact .inr ⟨es, rest, a, b⟩
  have b5 := sl_size hsz s5' Try.underlying26 Try.by5 (cf_field ht hd (i := 4) rfl rfl)
  refine ⟨h.secs, h.jos, h.sigs, h.crs, h.rts, fun r hr => ?_, h.l1, h.l2, h.l3, h.l4, h.l5, b1, b2, b3, b4, b5, by omega, by omega, by omega, by omega, by omega⟩
  rcases s5 with ⟨_, e⟩ | ⟨es, rest, rfl, _, he⟩
  · rw [e] at hr; cases hr
  · obtain ⟨i, hi, rfl⟩ := List.mem_iff_getElem.1 hr
    obtain ⟨x, hxi, ⟨r1, r2, r3, i1, i2, i3, n1, n2, n3⟩, e0, e1, e2, e3, e4, e5, rfl, t1, t2, t3⟩ := he i hi
    unfold maxLen at n1 n2 n3
    have q1 := sl_size hsz t1 Try.underlying80 Try.by6 (fun k hk => cf_field ht hd (i := 4) rfl rfl k (ro_field (rest := rest) hxi (i := 2) rfl rfl k hk))
    have q2 := sl_size hsz t2 Try.underlying81 Try.by7 (fun k hk => cf_field ht hd (i := 4) rfl rfl k (ro_field (rest := rest) hxi (i := 3) rfl rfl k hk))
    have q3 := sl_size hsz t3 Try.underlying25 Try.by4 (fun k hk => cf_field ht hd (i := 4) rfl rfl k (ro_field (rest := rest) hxi (i := 4) rfl rfl k hk))
    exact ⟨r1, r2, r3, i1, i2, i3, q1, q2, q3, by omega, by omega, by omega⟩
end
end Go.Proofs.Ytnnacdkijeoeoaa


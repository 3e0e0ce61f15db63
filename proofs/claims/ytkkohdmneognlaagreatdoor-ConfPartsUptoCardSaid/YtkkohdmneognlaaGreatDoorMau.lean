/- How an argument that is a configuration is read. -/
import Derived.Test.YtkkohdmneognlaaGreatDoorMat
import Derived.Deep.Slices
import Derived.Lib.SmallJoins
namespace Go.Proofs.YtkkohdmneognlaaGreatDoor
/-- numbers of 64 bits -/
def I64 (l : List Int) : Prop := ∀ n ∈ l, -9223372036854775808 ≤ n ∧ n ≤ 9223372036854775807
open Go.ChangeShapes Go.WideShapes Go.ChangeAt Go.RowKit Go.Deep Go.Joins

theorem Tryz.cellsSec : Tryz.prog.cellsOf 62 = 3 := by kernel_rfl
theorem Tryz.cellsJo : Tryz.prog.cellsOf 69 = 4 := by kernel_rfl
theorem Tryz.cellsSg : Tryz.prog.cellsOf 56 = 2 := by kernel_rfl
theorem Tryz.cellsSt : Tryz.prog.cellsOf 45 = 3 := by kernel_rfl
theorem Tryz.cellsNd : Tryz.prog.cellsOf 67 = 2 := by kernel_rfl
theorem Tryz.cellsTm : Tryz.prog.cellsOf 28 = 4 := by kernel_rfl
theorem Tryz.cellsRo : Tryz.prog.cellsOf 43 = 6 := by kernel_rfl
theorem Tryz.cellsCf : Tryz.prog.cellsOf 30 = 9 := by kernel_rfl
/-- a list's length, as the reading tells it -/
def SL {H : Type} (d : DataW H) (n : Nat) : Prop := (d = .nil ∧ n = 0) ∨ ∃ es rest, d = .slice es rest ∧ es.length = n

section
variable {H : Type} {enc : TypeId × Value → H} {w : World} {base : Nat}
set_option maxRecDepth 100000 in
theorem int_of {n : Nat} {c : Value} {y : DataW H × List MemPlace} (h : DataW.trod enc Tryz.prog w 0 (fun _ => true) true n 3 [c] = some y) : ∃ a : Int, c = .int .i64 a ∧ -9223372036854775808 ≤ a ∧ a ≤ 9223372036854775807 := by
  obtain ⟨a, e, _, wa⟩ := DataW.trod_int Tryz.underlying3 h
  refine ⟨a, by injection e, ?_⟩
  simp only [Lit.wf, IntKind.min, IntKind.max, IntKind.signed, IntKind.bits, Bool.and_eq_true, decide_eq_true_eq, if_true] at wa
  have := wa.1
  have := wa.2
  omega
set_option maxRecDepth 100000 in
theorem sec_of {n : Nat} {cs : List Value} {y : DataW H × List MemPlace} (h : DataW.trod enc Tryz.prog w 0 (fun _ => true) true n 62 cs = some y) : ∃ s : Sec, cs = [.int .i64 s.kind, .int .i64 s.oc, .int .i64 s.line] ∧ I64 [s.kind, s.oc, s.line] := by
  obtain ⟨xs, m, _, hx, hlen, hxl, hf⟩ := DataW.trod_struct Tryz.underlying62 h
  rw [Tryz.cellsSec] at hlen
  match cs, hlen with
  | [c0, c1, c2], _ =>
    match xs, hxl with
    | [x0, x1, x2], _ =>
      have h0 : DataW.trod enc Tryz.prog w 0 (fun _ => true) true m 3 (([c0, c1, c2].drop 0).take (Tryz.prog.cellsOf 3)) = some x0 := hf 0 _ rfl
      have h1 : DataW.trod enc Tryz.prog w 0 (fun _ => true) true m 3 (([c0, c1, c2].drop 1).take (Tryz.prog.cellsOf 3)) = some x1 := hf 1 _ rfl
      have h2 : DataW.trod enc Tryz.prog w 0 (fun _ => true) true m 3 (([c0, c1, c2].drop 2).take (Tryz.prog.cellsOf 3)) = some x2 := hf 2 _ rfl
      rw [Tryz.cellInt] at h0 h1 h2
      obtain ⟨a, rfl, na⟩ := int_of (show DataW.trod enc Tryz.prog w 0 (fun _ => true) true m 3 [c0] = some x0 from h0)
      obtain ⟨b, rfl, nb⟩ := int_of (show DataW.trod enc Tryz.prog w 0 (fun _ => true) true m 3 [c1] = some x1 from h1)
      obtain ⟨c, rfl, nc⟩ := int_of (show DataW.trod enc Tryz.prog w 0 (fun _ => true) true m 3 [c2] = some x2 from h2)
      exact ⟨⟨a, b, c⟩, rfl, fun n hn => by simp only [List.mem_cons, List.not_mem_nil, or_false] at hn; rcases hn with rfl | rfl | rfl <;> assumption⟩
set_option maxRecDepth 100000 in
theorem jo_of {n : Nat} {cs : List Value} {y : DataW H × List MemPlace} (h : DataW.trod enc Tryz.prog w 0 (fun _ => true) true n 69 cs = some y) : ∃ s : Jo, cs = [.int .i64 s.a, .int .i64 s.ae, .int .i64 s.b, .int .i64 s.be] ∧ I64 [s.a, s.ae, s.b, s.be] := by
  obtain ⟨xs, m, _, hx, hlen, hxl, hf⟩ := DataW.trod_struct Tryz.underlying69 h
  rw [Tryz.cellsJo] at hlen
  match cs, hlen with
  | [c0, c1, c2, c3], _ =>
    match xs, hxl with
    | [x0, x1, x2, x3], _ =>
      have h0 : DataW.trod enc Tryz.prog w 0 (fun _ => true) true m 3 (([c0, c1, c2, c3].drop 0).take (Tryz.prog.cellsOf 3)) = some x0 := hf 0 _ rfl
      have h1 : DataW.trod enc Tryz.prog w 0 (fun _ => true) true m 3 (([c0, c1, c2, c3].drop 1).take (Tryz.prog.cellsOf 3)) = some x1 := hf 1 _ rfl
      have h2 : DataW.trod enc Tryz.prog w 0 (fun _ => true) true m 3 (([c0, c1, c2, c3].drop 2).take (Tryz.prog.cellsOf 3)) = some x2 := hf 2 _ rfl
      have h3 : DataW.trod enc Tryz.prog w 0 (fun _ => true) true m 3 (([c0, c1, c2, c3].drop 3).take (Tryz.prog.cellsOf 3)) = some x3 := hf 3 _ rfl
      rw [Tryz.cellInt] at h0 h1 h2 h3
      obtain ⟨a, rfl, na⟩ := int_of (show DataW.trod enc Tryz.prog w 0 (fun _ => true) true m 3 [c0] = some x0 from h0)
      obtain ⟨b, rfl, nb⟩ := int_of (show DataW.trod enc Tryz.prog w 0 (fun _ => true) true m 3 [c1] = some x1 from h1)
      obtain ⟨c, rfl, nc⟩ := int_of (show DataW.trod enc Tryz.prog w 0 (fun _ => true) true m 3 [c2] = some x2 from h2)
      obtain ⟨d, rfl, nd⟩ := int_of (show DataW.trod enc Tryz.prog w 0 (fun _ => true) true m 3 [c3] = some x3 from h3)
      exact ⟨⟨a, b, c, d⟩, rfl, fun n hn => by simp only [List.mem_cons, List.not_mem_nil, or_false] at hn; rcases hn with rfl | rfl | rfl | rfl <;> assumption⟩

theorem exists_fun {α : Type} [Inhabited α] {m : Nat} {Q : Nat → α → Prop} (h : ∀ i, i < m → ∃ a, Q i a) : ∃ f : Nat → α, ∀ i, i < m → Q i (f i) := by
  classical
  refine ⟨fun i => if hi : i < m then (h i hi).choose else default, fun i hi => ?_⟩
  simp only [hi, dif_pos]
  exact (h i hi).choose_spec
/-- a flat list of cells, place by place -/
theorem flat_at {α : Type} (g : α → List Value) (size : Nat) (hg : ∀ a, (g a).length = size) : ∀ (l : List α) (j : Nat) (u : Value), (l.flatMap g)[j]? = some u → ∃ i k, j = i * size + k ∧ k < size ∧ ∃ h : i < l.length, (g l[i])[k]? = some u
  | [], j, u, h => by simp at h
  | a :: r, j, u, h => by
    rw [List.flatMap_cons] at h
    by_cases hj : j < size
    · rw [List.getElem?_append_left (by rw [hg]; exact hj)] at h
      exact ⟨0, j, by omega, hj, by simp, h⟩
    · rw [List.getElem?_append_right (by rw [hg]; omega), hg] at h
      obtain ⟨i, k, e, hk, hi, hu⟩ := flat_at g size hg r (j - size) u h
      exact ⟨i + 1, k, by rw [Nat.add_mul]; omega, hk, by simpa using hi, by simpa using hu⟩
set_option maxRecDepth 100000 in
theorem sg_of {n : Nat} {cs : List Value} {y : DataW H × List MemPlace} (h : DataW.trod enc Tryz.prog w 0 (fun _ => true) true n 56 cs = some y) : ∃ s : Sg, cs = [.int .i64 s.sec, .int .i64 s.fin] ∧ I64 [s.sec, s.fin] := by
  obtain ⟨xs, m, _, hx, hlen, hxl, hf⟩ := DataW.trod_struct Tryz.underlying56 h
  rw [Tryz.cellsSg] at hlen
  match cs, hlen with
  | [c0, c1], _ =>
    match xs, hxl with
    | [x0, x1], _ =>
      have h0 : DataW.trod enc Tryz.prog w 0 (fun _ => true) true m 3 (([c0, c1].drop 0).take (Tryz.prog.cellsOf 3)) = some x0 := hf 0 _ rfl
      have h1 : DataW.trod enc Tryz.prog w 0 (fun _ => true) true m 3 (([c0, c1].drop 1).take (Tryz.prog.cellsOf 3)) = some x1 := hf 1 _ rfl
      rw [Tryz.cellInt] at h0 h1
      obtain ⟨a0, rfl, na0⟩ := int_of (show DataW.trod enc Tryz.prog w 0 (fun _ => true) true m 3 [c0] = some x0 from h0)
      obtain ⟨a1, rfl, na1⟩ := int_of (show DataW.trod enc Tryz.prog w 0 (fun _ => true) true m 3 [c1] = some x1 from h1)
      exact ⟨⟨a0, a1⟩, rfl, fun n hn => by simp only [List.mem_cons, List.not_mem_nil, or_false] at hn; rcases hn with rfl | rfl <;> assumption⟩
set_option maxRecDepth 100000 in
theorem st_of {n : Nat} {cs : List Value} {y : DataW H × List MemPlace} (h : DataW.trod enc Tryz.prog w 0 (fun _ => true) true n 45 cs = some y) : ∃ s : St, cs = [.int .i64 s.sec, .int .i64 s.inn, .int .i64 s.out] ∧ I64 [s.sec, s.inn, s.out] := by
  obtain ⟨xs, m, _, hx, hlen, hxl, hf⟩ := DataW.trod_struct Tryz.underlying45 h
  rw [Tryz.cellsSt] at hlen
  match cs, hlen with
  | [c0, c1, c2], _ =>
    match xs, hxl with
    | [x0, x1, x2], _ =>
      have h0 : DataW.trod enc Tryz.prog w 0 (fun _ => true) true m 3 (([c0, c1, c2].drop 0).take (Tryz.prog.cellsOf 3)) = some x0 := hf 0 _ rfl
      have h1 : DataW.trod enc Tryz.prog w 0 (fun _ => true) true m 3 (([c0, c1, c2].drop 1).take (Tryz.prog.cellsOf 3)) = some x1 := hf 1 _ rfl
      have h2 : DataW.trod enc Tryz.prog w 0 (fun _ => true) true m 3 (([c0, c1, c2].drop 2).take (Tryz.prog.cellsOf 3)) = some x2 := hf 2 _ rfl
      rw [Tryz.cellInt] at h0 h1 h2
      obtain ⟨a0, rfl, na0⟩ := int_of (show DataW.trod enc Tryz.prog w 0 (fun _ => true) true m 3 [c0] = some x0 from h0)
      obtain ⟨a1, rfl, na1⟩ := int_of (show DataW.trod enc Tryz.prog w 0 (fun _ => true) true m 3 [c1] = some x1 from h1)
      obtain ⟨a2, rfl, na2⟩ := int_of (show DataW.trod enc Tryz.prog w 0 (fun _ => true) true m 3 [c2] = some x2 from h2)
      exact ⟨⟨a0, a1, a2⟩, rfl, fun n hn => by simp only [List.mem_cons, List.not_mem_nil, or_false] at hn; rcases hn with rfl | rfl | rfl <;> assumption⟩
set_option maxRecDepth 100000 in
theorem nd_of {n : Nat} {cs : List Value} {y : DataW H × List MemPlace} (h : DataW.trod enc Tryz.prog w 0 (fun _ => true) true n 67 cs = some y) : ∃ s : Nd, cs = [.int .i64 s.sec, .int .i64 s.pos] ∧ I64 [s.sec, s.pos] := by
  obtain ⟨xs, m, _, hx, hlen, hxl, hf⟩ := DataW.trod_struct Tryz.underlying67 h
  rw [Tryz.cellsNd] at hlen
  match cs, hlen with
  | [c0, c1], _ =>
    match xs, hxl with
    | [x0, x1], _ =>
      have h0 : DataW.trod enc Tryz.prog w 0 (fun _ => true) true m 3 (([c0, c1].drop 0).take (Tryz.prog.cellsOf 3)) = some x0 := hf 0 _ rfl
      have h1 : DataW.trod enc Tryz.prog w 0 (fun _ => true) true m 3 (([c0, c1].drop 1).take (Tryz.prog.cellsOf 3)) = some x1 := hf 1 _ rfl
      rw [Tryz.cellInt] at h0 h1
      obtain ⟨a0, rfl, na0⟩ := int_of (show DataW.trod enc Tryz.prog w 0 (fun _ => true) true m 3 [c0] = some x0 from h0)
      obtain ⟨a1, rfl, na1⟩ := int_of (show DataW.trod enc Tryz.prog w 0 (fun _ => true) true m 3 [c1] = some x1 from h1)
      exact ⟨⟨a0, a1⟩, rfl, fun n hn => by simp only [List.mem_cons, List.not_mem_nil, or_false] at hn; rcases hn with rfl | rfl <;> assumption⟩
set_option maxRecDepth 100000 in
theorem tm_of {n : Nat} {cs : List Value} {y : DataW H × List MemPlace} (h : DataW.trod enc Tryz.prog w 0 (fun _ => true) true n 28 cs = some y) : ∃ s : Tm, cs = [.int .i64 s.age, .int .i64 s.brake, .int .i64 s.hold, .int .i64 s.budget] ∧ I64 [s.age, s.brake, s.hold, s.budget] := by
  obtain ⟨xs, m, _, hx, hlen, hxl, hf⟩ := DataW.trod_struct Tryz.underlying28 h
  rw [Tryz.cellsTm] at hlen
  match cs, hlen with
  | [c0, c1, c2, c3], _ =>
    match xs, hxl with
    | [x0, x1, x2, x3], _ =>
      have h0 : DataW.trod enc Tryz.prog w 0 (fun _ => true) true m 3 (([c0, c1, c2, c3].drop 0).take (Tryz.prog.cellsOf 3)) = some x0 := hf 0 _ rfl
      have h1 : DataW.trod enc Tryz.prog w 0 (fun _ => true) true m 3 (([c0, c1, c2, c3].drop 1).take (Tryz.prog.cellsOf 3)) = some x1 := hf 1 _ rfl
      have h2 : DataW.trod enc Tryz.prog w 0 (fun _ => true) true m 3 (([c0, c1, c2, c3].drop 2).take (Tryz.prog.cellsOf 3)) = some x2 := hf 2 _ rfl
      have h3 : DataW.trod enc Tryz.prog w 0 (fun _ => true) true m 3 (([c0, c1, c2, c3].drop 3).take (Tryz.prog.cellsOf 3)) = some x3 := hf 3 _ rfl
      rw [Tryz.cellInt] at h0 h1 h2 h3
      obtain ⟨a0, rfl, na0⟩ := int_of (show DataW.trod enc Tryz.prog w 0 (fun _ => true) true m 3 [c0] = some x0 from h0)
      obtain ⟨a1, rfl, na1⟩ := int_of (show DataW.trod enc Tryz.prog w 0 (fun _ => true) true m 3 [c1] = some x1 from h1)
      obtain ⟨a2, rfl, na2⟩ := int_of (show DataW.trod enc Tryz.prog w 0 (fun _ => true) true m 3 [c2] = some x2 from h2)
      obtain ⟨a3, rfl, na3⟩ := int_of (show DataW.trod enc Tryz.prog w 0 (fun _ => true) true m 3 [c3] = some x3 from h3)
      exact ⟨⟨a0, a1, a2, a3⟩, rfl, fun n hn => by simp only [List.mem_cons, List.not_mem_nil, or_false] at hn; rcases hn with rfl | rfl | rfl | rfl <;> assumption⟩
set_option maxRecDepth 100000 in
/-- A slice of structs that came in: read as a flat row. -/
theorem open_flatQ {α : Type} [Inhabited α] {t e : TypeId} (Q : α → DataW H → Prop) {n : Nat} {v : Value} {y : DataW H × List MemPlace} (size : Nat) (g : α → List Value) (hg : ∀ a, (g a).length = size) (ht : Tryz.prog.underlying t = some (.slice e)) (hc : Tryz.prog.cellsOf e = size)
    (hof : ∀ (n : Nat) (cs : List Value) (y : DataW H × List MemPlace), DataW.trod enc Tryz.prog w 0 (fun _ => true) true n e cs = some y → ∃ a : α, cs = g a ∧ Q a y.1) (h : DataW.trod enc Tryz.prog w 0 (fun _ => true) true n t [v] = some y) :
    ∃ (A : Option Addr) (c : Nat) (l : List α), v = .slice A l.length c ∧ Rd w A (l.flatMap g) ∧ l.length ≤ c ∧ c ≤ maxLen ∧ ((y.1 = .nil ∧ l = []) ∨ ∃ es rest, y.1 = .slice es rest ∧ es.length = l.length ∧ ∀ i (hi : i < l.length), ∃ x, es[i]? = some x ∧ Q l[i] x) := by
  rcases open_slice ht h with ⟨hcs, hx⟩ | ⟨a, len, cap, m, n', D, Pl, hcs, hb, hl, hm, hmm, hx, hi⟩
  · simp only [List.cons.injEq, and_true] at hcs
    exact ⟨none, 0, [], hcs, fun h => by simp at h, Nat.zero_le _, Nat.zero_le _, .inl ⟨by rw [hx], rfl⟩⟩
  · simp only [List.cons.injEq, and_true] at hcs
    have hmc : m = cap := by simpa using hmm
    subst hmc
    rw [hc] at hi
    have hq : ∀ i, i < len → ∃ x : α, (∀ j, j < size → w.cell? ((a.add (i * size)).add j) = (g x)[j]?) ∧ Q x (D i) := by
      intro i hil
      obtain ⟨cs', hc', ht'⟩ := hi i (by omega)
      obtain ⟨x, rfl, hQ⟩ := hof _ _ _ ht'
      exact ⟨x, (World.cells?_some hc').2.2, hQ⟩
    obtain ⟨f, hfn⟩ := exists_fun hq
    refine ⟨some a, m, (List.range len).map f, by simp [hcs], rd_of fun j u hu => ?_, by simpa using hl, hm, .inr ⟨_, _, by rw [hx], by simp, fun i hi' => ?_⟩⟩
    · obtain ⟨i, k, rfl, hk, hil, hu⟩ := flat_at g size hg _ j u hu
      have hil' : i < len := by simpa using hil
      have := (hfn i hil').1 k hk
      rw [← Go.Deep.add_add, this]
      simpa using hu
    · have hil : i < len := by simpa using hi'
      refine ⟨D i, by simp [hil], ?_⟩
      simp only [List.getElem_map, List.getElem_range]
      exact (hfn i hil).2
set_option maxRecDepth 100000 in
theorem open_secs {n : Nat} {v : Value} {y : DataW H × List MemPlace} (h : DataW.trod enc Tryz.prog w 0 (fun _ => true) true n 22 [v] = some y) :
    ∃ (A : Option Addr) (c : Nat) (l : List Sec), v = .slice A l.length c ∧ Rd w A (cellsS l) ∧ l.length ≤ c ∧ c ≤ maxLen ∧ SL y.1 l.length ∧ ∀ s ∈ l, I64 [s.kind, s.oc, s.line] := by
  obtain ⟨A, c, l, e, r, k, m, s⟩ := open_flatQ (fun (s : Sec) _ => I64 [s.kind, s.oc, s.line]) 3 (fun s : Sec => [.int .i64 s.kind, .int .i64 s.oc, .int .i64 s.line]) (fun _ => rfl) Tryz.underlying22 Tryz.cellsSec (fun _ _ _ h => by obtain ⟨a, e, k⟩ := sec_of h; exact ⟨a, e, k⟩) h
  refine ⟨A, c, l, e, r, k, m, ?_⟩
  rcases s with ⟨a, b⟩ | ⟨es, rest, a, b, q⟩
  · exact ⟨.inl ⟨a, by rw [b]; rfl⟩, fun s hs => by rw [b] at hs; cases hs⟩
  · refine ⟨.inr ⟨es, rest, a, b⟩, fun s hs => ?_⟩
    obtain ⟨i, hi, rfl⟩ := List.getElem_of_mem hs
    obtain ⟨_, _, k⟩ := q i hi
    exact k
set_option maxRecDepth 100000 in
theorem open_jos {n : Nat} {v : Value} {y : DataW H × List MemPlace} (h : DataW.trod enc Tryz.prog w 0 (fun _ => true) true n 23 [v] = some y) :
    ∃ (A : Option Addr) (c : Nat) (l : List Jo), v = .slice A l.length c ∧ Rd w A (cellsJ l) ∧ l.length ≤ c ∧ c ≤ maxLen ∧ SL y.1 l.length ∧ ∀ s ∈ l, I64 [s.a, s.ae, s.b, s.be] := by
  obtain ⟨A, c, l, e, r, k, m, s⟩ := open_flatQ (fun (s : Jo) _ => I64 [s.a, s.ae, s.b, s.be]) 4 (fun s : Jo => [.int .i64 s.a, .int .i64 s.ae, .int .i64 s.b, .int .i64 s.be]) (fun _ => rfl) Tryz.underlying23 Tryz.cellsJo (fun _ _ _ h => by obtain ⟨a, e, k⟩ := jo_of h; exact ⟨a, e, k⟩) h
  refine ⟨A, c, l, e, r, k, m, ?_⟩
  rcases s with ⟨a, b⟩ | ⟨es, rest, a, b, q⟩
  · exact ⟨.inl ⟨a, by rw [b]; rfl⟩, fun s hs => by rw [b] at hs; cases hs⟩
  · refine ⟨.inr ⟨es, rest, a, b⟩, fun s hs => ?_⟩
    obtain ⟨i, hi, rfl⟩ := List.getElem_of_mem hs
    obtain ⟨_, _, k⟩ := q i hi
    exact k
set_option maxRecDepth 100000 in
theorem open_sgs {n : Nat} {v : Value} {y : DataW H × List MemPlace} (h : DataW.trod enc Tryz.prog w 0 (fun _ => true) true n 24 [v] = some y) :
    ∃ (A : Option Addr) (c : Nat) (l : List Sg), v = .slice A l.length c ∧ Rd w A (cellsG l) ∧ l.length ≤ c ∧ c ≤ maxLen ∧ SL y.1 l.length ∧ ∀ s ∈ l, I64 [s.sec, s.fin] := by
  obtain ⟨A, c, l, e, r, k, m, s⟩ := open_flatQ (fun (s : Sg) _ => I64 [s.sec, s.fin]) 2 (fun s : Sg => [.int .i64 s.sec, .int .i64 s.fin]) (fun _ => rfl) Tryz.underlying24 Tryz.cellsSg (fun _ _ _ h => by obtain ⟨a, e, k⟩ := sg_of h; exact ⟨a, e, k⟩) h
  refine ⟨A, c, l, e, r, k, m, ?_⟩
  rcases s with ⟨a, b⟩ | ⟨es, rest, a, b, q⟩
  · exact ⟨.inl ⟨a, by rw [b]; rfl⟩, fun s hs => by rw [b] at hs; cases hs⟩
  · refine ⟨.inr ⟨es, rest, a, b⟩, fun s hs => ?_⟩
    obtain ⟨i, hi, rfl⟩ := List.getElem_of_mem hs
    obtain ⟨_, _, k⟩ := q i hi
    exact k
set_option maxRecDepth 100000 in
theorem open_sts {n : Nat} {v : Value} {y : DataW H × List MemPlace} (h : DataW.trod enc Tryz.prog w 0 (fun _ => true) true n 40 [v] = some y) :
    ∃ (A : Option Addr) (c : Nat) (l : List St), v = .slice A l.length c ∧ Rd w A (cellsT l) ∧ l.length ≤ c ∧ c ≤ maxLen ∧ SL y.1 l.length ∧ ∀ s ∈ l, I64 [s.sec, s.inn, s.out] := by
  obtain ⟨A, c, l, e, r, k, m, s⟩ := open_flatQ (fun (s : St) _ => I64 [s.sec, s.inn, s.out]) 3 (fun s : St => [.int .i64 s.sec, .int .i64 s.inn, .int .i64 s.out]) (fun _ => rfl) Tryz.underlying40 Tryz.cellsSt (fun _ _ _ h => by obtain ⟨a, e, k⟩ := st_of h; exact ⟨a, e, k⟩) h
  refine ⟨A, c, l, e, r, k, m, ?_⟩
  rcases s with ⟨a, b⟩ | ⟨es, rest, a, b, q⟩
  · exact ⟨.inl ⟨a, by rw [b]; rfl⟩, fun s hs => by rw [b] at hs; cases hs⟩
  · refine ⟨.inr ⟨es, rest, a, b⟩, fun s hs => ?_⟩
    obtain ⟨i, hi, rfl⟩ := List.getElem_of_mem hs
    obtain ⟨_, _, k⟩ := q i hi
    exact k
set_option maxRecDepth 100000 in
theorem open_nds {n : Nat} {v : Value} {y : DataW H × List MemPlace} (h : DataW.trod enc Tryz.prog w 0 (fun _ => true) true n 41 [v] = some y) :
    ∃ (A : Option Addr) (c : Nat) (l : List Nd), v = .slice A l.length c ∧ Rd w A (cellsN l) ∧ l.length ≤ c ∧ c ≤ maxLen ∧ SL y.1 l.length ∧ ∀ s ∈ l, I64 [s.sec, s.pos] := by
  obtain ⟨A, c, l, e, r, k, m, s⟩ := open_flatQ (fun (s : Nd) _ => I64 [s.sec, s.pos]) 2 (fun s : Nd => [.int .i64 s.sec, .int .i64 s.pos]) (fun _ => rfl) Tryz.underlying41 Tryz.cellsNd (fun _ _ _ h => by obtain ⟨a, e, k⟩ := nd_of h; exact ⟨a, e, k⟩) h
  refine ⟨A, c, l, e, r, k, m, ?_⟩
  rcases s with ⟨a, b⟩ | ⟨es, rest, a, b, q⟩
  · exact ⟨.inl ⟨a, by rw [b]; rfl⟩, fun s hs => by rw [b] at hs; cases hs⟩
  · refine ⟨.inr ⟨es, rest, a, b⟩, fun s hs => ?_⟩
    obtain ⟨i, hi, rfl⟩ := List.getElem_of_mem hs
    obtain ⟨_, _, k⟩ := q i hi
    exact k
set_option maxRecDepth 100000 in
theorem open_nums {n : Nat} {v : Value} {y : DataW H × List MemPlace} (h : DataW.trod enc Tryz.prog w 0 (fun _ => true) true n 25 [v] = some y) :
    ∃ (A : Option Addr) (c : Nat) (l : List Int), v = .slice A l.length c ∧ Rd w A (l.map (Value.int .i64)) ∧ l.length ≤ c ∧ c ≤ maxLen ∧ SL y.1 l.length ∧ I64 l := by
  rcases open_ints Tryz.underlying25 Tryz.underlying3 Tryz.cellInt h with ⟨hcs, hd⟩ | ⟨a, len, cap, zs, hcs, _, hl, hm, hz, hd, hcell, hwf⟩
  · exact ⟨none, 0, [], by simpa using hcs, (fun h => by simp at h), Nat.le_refl _, Nat.zero_le _, .inl ⟨by rw [hd], rfl⟩, fun n hn => by cases hn⟩
  · have hzc : zs.length = cap := by simpa using hz
    have hlen' : (zs.take len).length = len := by rw [List.length_take]; omega
    refine ⟨some a, cap, zs.take len, by rw [hlen']; simpa using hcs, rd_of fun i u hu => ?_, by rw [hlen']; exact hl, hm, .inr ⟨lits .i64 (zs.take len), lits .i64 (zs.drop len), by rw [hd], by rw [lits_len]⟩, fun n hn => by
      have wa := hwf n (List.mem_of_mem_take hn)
      simp only [Lit.wf, IntKind.min, IntKind.max, IntKind.signed, IntKind.bits, Bool.and_eq_true, decide_eq_true_eq, if_true] at wa
      have := wa.1
      have := wa.2
      omega⟩
    have hi : i < len := by
      have := (List.getElem?_eq_some_iff.1 hu).1
      rw [List.length_map, hlen'] at this
      exact this
    rw [hcell i (by omega)]
    rw [List.getElem?_map, List.getElem?_take, if_pos hi, List.getElem?_eq_getElem (by omega)] at hu
    simp only [Option.map_some, Option.some.injEq] at hu
    rw [← hu, List.getD_eq_getElem?_getD, List.getElem?_eq_getElem (by omega)]
    rfl
/-- a route that came in, but for its lists' sizes; and what the reading tells of it -/
def RoIn (w : World) (r : Ro) (d : DataW H) : Prop :=
  (Rd w r.a1 (cellsT r.path) ∧ Rd w r.a2 (cellsN r.flank) ∧ Rd w r.a3 (r.over.map (Value.int .i64)) ∧ r.path.length ≤ r.c1 ∧ r.flank.length ≤ r.c2 ∧ r.over.length ≤ r.c3 ∧ r.c1 ≤ maxLen ∧ r.c2 ≤ maxLen ∧ r.c3 ≤ maxLen) ∧
  ∃ d0 d1 d2 d3 d4 d5, d = .agg [d0, d1, d2, d3, d4, d5] ∧ SL d2 r.path.length ∧ SL d3 r.flank.length ∧ SL d4 r.over.length
def R64 (r : Ro) : Prop := I64 [r.entry, r.exit] ∧ (∀ s ∈ r.path, I64 [s.sec, s.inn, s.out]) ∧ (∀ s ∈ r.flank, I64 [s.sec, s.pos]) ∧ I64 r.over
theorem Tryz.cellsL1 : Tryz.prog.cellsOf 40 = 1 := by kernel_rfl
theorem Tryz.cellsL2 : Tryz.prog.cellsOf 41 = 1 := by kernel_rfl
theorem Tryz.cellsL3 : Tryz.prog.cellsOf 25 = 1 := by kernel_rfl
theorem Tryz.cellsBo : Tryz.prog.cellsOf 4 = 1 := by kernel_rfl
set_option maxRecDepth 100000 in
theorem ro_of {n : Nat} {cs : List Value} {y : DataW H × List MemPlace} (h : DataW.trod enc Tryz.prog w 0 (fun _ => true) true n 43 cs = some y) : ∃ r : Ro, cs = r.cells ∧ RoIn w r y.1 ∧ R64 r := by
  obtain ⟨xs, m, _, hx, hlen, hxl, hf⟩ := DataW.trod_struct Tryz.underlying43 h
  rw [Tryz.cellsRo] at hlen
  match cs, hlen with
  | [e0, e1, e2, e3, e4, e5], _ =>
    match xs, hxl with
    | [x0, x1, x2, x3, x4, x5], _ =>
      have h0 : DataW.trod enc Tryz.prog w 0 (fun _ => true) true m 3 (([e0, e1, e2, e3, e4, e5].drop 0).take (Tryz.prog.cellsOf 3)) = some x0 := hf 0 _ rfl
      have h1 : DataW.trod enc Tryz.prog w 0 (fun _ => true) true m 3 (([e0, e1, e2, e3, e4, e5].drop 1).take (Tryz.prog.cellsOf 3)) = some x1 := hf 1 _ rfl
      have h2 : DataW.trod enc Tryz.prog w 0 (fun _ => true) true m 40 (([e0, e1, e2, e3, e4, e5].drop 2).take (Tryz.prog.cellsOf 40)) = some x2 := hf 2 _ rfl
      have h3 : DataW.trod enc Tryz.prog w 0 (fun _ => true) true m 41 (([e0, e1, e2, e3, e4, e5].drop 3).take (Tryz.prog.cellsOf 41)) = some x3 := hf 3 _ rfl
      have h4 : DataW.trod enc Tryz.prog w 0 (fun _ => true) true m 25 (([e0, e1, e2, e3, e4, e5].drop 4).take (Tryz.prog.cellsOf 25)) = some x4 := hf 4 _ rfl
      have h5 : DataW.trod enc Tryz.prog w 0 (fun _ => true) true m 4 (([e0, e1, e2, e3, e4, e5].drop 5).take (Tryz.prog.cellsOf 4)) = some x5 := hf 5 _ rfl
      rw [Tryz.cellInt] at h0 h1
      rw [Tryz.cellsL1] at h2
      rw [Tryz.cellsL2] at h3
      rw [Tryz.cellsL3] at h4
      rw [Tryz.cellsBo] at h5
      obtain ⟨a0, rfl, na0⟩ := int_of (show DataW.trod enc Tryz.prog w 0 (fun _ => true) true m 3 [e0] = some x0 from h0)
      obtain ⟨a1, rfl, na1⟩ := int_of (show DataW.trod enc Tryz.prog w 0 (fun _ => true) true m 3 [e1] = some x1 from h1)
      obtain ⟨A1, k1, l1, rfl, r1, i1, m1, s1, q1⟩ := open_sts (show DataW.trod enc Tryz.prog w 0 (fun _ => true) true m 40 [e2] = some x2 from h2)
      obtain ⟨A2, k2, l2, rfl, r2, i2, m2, s2, q2⟩ := open_nds (show DataW.trod enc Tryz.prog w 0 (fun _ => true) true m 41 [e3] = some x3 from h3)
      obtain ⟨A3, k3, l3, rfl, r3, i3, m3, s3, q3⟩ := open_nums (show DataW.trod enc Tryz.prog w 0 (fun _ => true) true m 25 [e4] = some x4 from h4)
      obtain ⟨b, eb, _⟩ := DataW.trod_bool Tryz.underlying4 (show DataW.trod enc Tryz.prog w 0 (fun _ => true) true m 4 [e5] = some x5 from h5)
      have eb : e5 = .bool b := by simpa using eb
      subst eb
      exact ⟨⟨a0, a1, A1, k1, l1, A2, k2, l2, A3, k3, l3, b⟩, rfl, ⟨⟨r1, r2, r3, i1, i2, i3, m1, m2, m3⟩, _, _, _, _, _, _, by rw [hx]; rfl, s1, s2, s3⟩, fun n hn => by simp only [List.mem_cons, List.not_mem_nil, or_false] at hn; rcases hn with rfl | rfl <;> assumption, q1, q2, q3⟩
set_option maxRecDepth 100000 in
theorem open_ros {n : Nat} {v : Value} {y : DataW H × List MemPlace} (h : DataW.trod enc Tryz.prog w 0 (fun _ => true) true n 26 [v] = some y) :
    ∃ (A : Option Addr) (c : Nat) (l : List Ro), v = .slice A l.length c ∧ Rd w A (cellsR l) ∧ l.length ≤ c ∧ c ≤ maxLen ∧ ((y.1 = .nil ∧ l = []) ∨ ∃ es rest, y.1 = .slice es rest ∧ es.length = l.length ∧ ∀ i (hi : i < l.length), ∃ x, es[i]? = some x ∧ RoIn w l[i] x ∧ R64 l[i]) :=
  open_flatQ (fun r x => RoIn w r x ∧ R64 r) 6 Ro.cells (fun _ => rfl) Tryz.underlying26 Tryz.cellsRo (fun _ _ _ h => ro_of h) h
/-- a configuration that came in, but for its lists' sizes; and what the reading tells of it -/
structure CfIn (w : World) (C : Cm) (d : DataW H) : Prop where
  secs : Rd w C.A1 (cellsS C.l)
  jos : Rd w C.A2 (cellsJ C.js)
  sigs : Rd w C.A3 (cellsG C.sg)
  crs : Rd w C.A4 (C.cr.map (Value.int .i64))
  rts : Rd w C.A5 (cellsR C.rs)
  l1 : C.l.length ≤ C.c1
  l2 : C.js.length ≤ C.c2
  l3 : C.sg.length ≤ C.c3
  l4 : C.cr.length ≤ C.c4
  l5 : C.rs.length ≤ C.c5
  n64 : (∀ s ∈ C.l, I64 [s.kind, s.oc, s.line]) ∧ (∀ s ∈ C.js, I64 [s.a, s.ae, s.b, s.be]) ∧ (∀ s ∈ C.sg, I64 [s.sec, s.fin]) ∧ I64 C.cr ∧ (∀ r ∈ C.rs, R64 r) ∧ I64 [C.tm.age, C.tm.brake, C.tm.hold, C.tm.budget]
  m1 : C.c1 ≤ maxLen
  m2 : C.c2 ≤ maxLen
  m3 : C.c3 ≤ maxLen
  m4 : C.c4 ≤ maxLen
  m5 : C.c5 ≤ maxLen
  data : ∃ d1 d2 d3 d4 d5 d6, d = .agg [d1, d2, d3, d4, d5, d6] ∧ SL d1 C.l.length ∧ SL d2 C.js.length ∧ SL d3 C.sg.length ∧ SL d4 C.cr.length ∧ ((d5 = .nil ∧ C.rs = []) ∨ ∃ es rest, d5 = .slice es rest ∧ es.length = C.rs.length ∧ ∀ i (hi : i < C.rs.length), ∃ x, es[i]? = some x ∧ RoIn w C.rs[i] x)
theorem Tryz.cellsK1 : Tryz.prog.cellsOf 22 = 1 := by kernel_rfl
theorem Tryz.cellsK2 : Tryz.prog.cellsOf 23 = 1 := by kernel_rfl
theorem Tryz.cellsK3 : Tryz.prog.cellsOf 24 = 1 := by kernel_rfl
theorem Tryz.cellsK5 : Tryz.prog.cellsOf 26 = 1 := by kernel_rfl
set_option maxRecDepth 100000 in
set_option maxHeartbeats 1000000 in
theorem open_conf {v : Value} {d : DataW H} {ps : List MemPlace} (hv : Value.okWide Tryz.prog w .any base 30 v) (h : DataW.Trod enc Tryz.prog w 0 (fun _ => true) true 30 v d ps) : ∃ C : Cm, v = C.val ∧ CfIn w C d := by
  simp only [Value.okWide, Tryz.underlying30] at hv
  obtain ⟨cs, rfl, hcs, _⟩ := hv
  obtain ⟨fuel, hf0⟩ := h
  obtain ⟨l⟩ := cs
  obtain ⟨xs, m, _, hx, hlen, hxl, hf⟩ := DataW.trod_struct Tryz.underlying30 hf0
  rw [Tryz.cellsCf] at hlen
  match l, hlen with
  | [e0, e1, e2, e3, e4, e5, e6, e7, e8], _ =>
    match xs, hxl with
    | [x0, x1, x2, x3, x4, x5], _ =>
      have h0 : DataW.trod enc Tryz.prog w 0 (fun _ => true) true m 22 (([e0, e1, e2, e3, e4, e5, e6, e7, e8].drop 0).take (Tryz.prog.cellsOf 22)) = some x0 := hf 0 _ rfl
      have h1 : DataW.trod enc Tryz.prog w 0 (fun _ => true) true m 23 (([e0, e1, e2, e3, e4, e5, e6, e7, e8].drop 1).take (Tryz.prog.cellsOf 23)) = some x1 := hf 1 _ rfl
      have h2 : DataW.trod enc Tryz.prog w 0 (fun _ => true) true m 24 (([e0, e1, e2, e3, e4, e5, e6, e7, e8].drop 2).take (Tryz.prog.cellsOf 24)) = some x2 := hf 2 _ rfl
      have h3 : DataW.trod enc Tryz.prog w 0 (fun _ => true) true m 25 (([e0, e1, e2, e3, e4, e5, e6, e7, e8].drop 3).take (Tryz.prog.cellsOf 25)) = some x3 := hf 3 _ rfl
      have h4 : DataW.trod enc Tryz.prog w 0 (fun _ => true) true m 26 (([e0, e1, e2, e3, e4, e5, e6, e7, e8].drop 4).take (Tryz.prog.cellsOf 26)) = some x4 := hf 4 _ rfl
      have h5 : DataW.trod enc Tryz.prog w 0 (fun _ => true) true m 28 (([e0, e1, e2, e3, e4, e5, e6, e7, e8].drop 5).take (Tryz.prog.cellsOf 28)) = some x5 := hf 5 _ rfl
      rw [Tryz.cellsK1] at h0
      rw [Tryz.cellsK2] at h1
      rw [Tryz.cellsK3] at h2
      rw [Tryz.cellsL3] at h3
      rw [Tryz.cellsK5] at h4
      rw [Tryz.cellsTm] at h5
      obtain ⟨A1, k1, l1, rfl, r1, i1, m1, s1, q1⟩ := open_secs (show DataW.trod enc Tryz.prog w 0 (fun _ => true) true m 22 [e0] = some x0 from h0)
      obtain ⟨A2, k2, l2, rfl, r2, i2, m2, s2, q2⟩ := open_jos (show DataW.trod enc Tryz.prog w 0 (fun _ => true) true m 23 [e1] = some x1 from h1)
      obtain ⟨A3, k3, l3, rfl, r3, i3, m3, s3, q3⟩ := open_sgs (show DataW.trod enc Tryz.prog w 0 (fun _ => true) true m 24 [e2] = some x2 from h2)
      obtain ⟨A4, k4, l4, rfl, r4, i4, m4, s4, q4⟩ := open_nums (show DataW.trod enc Tryz.prog w 0 (fun _ => true) true m 25 [e3] = some x3 from h3)
      obtain ⟨A5, k5, l5, rfl, r5, i5, m5, s5⟩ := open_ros (show DataW.trod enc Tryz.prog w 0 (fun _ => true) true m 26 [e4] = some x4 from h4)
      obtain ⟨t, et, qt⟩ := tm_of (show DataW.trod enc Tryz.prog w 0 (fun _ => true) true m 28 [e5, e6, e7, e8] = some x5 from h5)
      injection et with t0 et
      injection et with t1 et
      injection et with t2 et
      injection et with t3 _
      subst t0 t1 t2 t3
      have hd : d = .agg [x0.1, x1.1, x2.1, x3.1, x4.1, x5.1] := by
        have := congrArg Prod.fst hx
        exact this
      exact ⟨⟨A1, k1, l1, A2, k2, l2, A3, k3, l3, A4, k4, l4, A5, k5, l5, t⟩, rfl, ⟨r1, r2, r3, r4, r5, i1, i2, i3, i4, i5, ⟨q1, q2, q3, q4, fun r hr => by
        rcases s5 with ⟨_, e⟩ | ⟨_, _, _, _, q⟩
        · rw [e] at hr; cases hr
        · obtain ⟨i, hi, rfl⟩ := List.getElem_of_mem hr
          obtain ⟨_, _, _, k⟩ := q i hi
          exact k, qt⟩, m1, m2, m3, m4, m5, x0.1, x1.1, x2.1, x3.1, x4.1, x5.1, hd, s1, s2, s3, s4, s5.imp (fun h => h) fun ⟨es, rest, a, b, q⟩ => ⟨es, rest, a, b, fun i hi => by obtain ⟨x, e, k, _⟩ := q i hi; exact ⟨x, e, k⟩⟩⟩⟩
end
end Go.Proofs.YtkkohdmneognlaaGreatDoor
/- A configuration that came in: the sizes of its lists, out of the reading's weights. -/
namespace Go.Proofs.YtkkohdmneognlaaGreatDoor
open Go.ChangeShapes Go.WideShapes Go.ChangeAt Go.RowKit Go.Deep

theorem weights_all {H : Type} {P : Program} {e : TypeId} : ∀ {es : List (DataW H)} {i : Nat} {x : DataW H} {n : Nat}, es[i]? = some x → n ∈ x.weights P e → n ∈ DataW.weightsAll P e es
  | y :: es, 0, x, n, h, hn => by
    simp only [List.getElem?_cons_zero, Option.some.injEq] at h
    subst h
    simp only [DataW.weightsAll, List.mem_append]
    exact .inl hn
  | y :: es, i + 1, x, n, h, hn => by
    simp only [List.getElem?_cons_succ] at h
    simp only [DataW.weightsAll, List.mem_append]
    exact .inr (weights_all h hn)
  | [], _, _, _, h, _ => by simp at h
section
variable {H : Type}
theorem sl_weight {d : DataW H} {n b : Nat} {t e : TypeId} (s : SL d n) (ht : Tryz.prog.underlying t = some (.slice e)) (hb : Tryz.prog.bytesOf e = b) : n = 0 ∨ ∃ k, k ∈ d.weights Tryz.prog t ∧ n * b ≤ k := by
  rcases s with ⟨_, h⟩ | ⟨es, rest, rfl, h⟩
  · exact .inl h
  · refine .inr ⟨(es.length + rest.length) * b, ?_, ?_⟩
    · simp only [DataW.weights, ht, hb]
      simp
    · rw [← h]
      exact Nat.mul_le_mul_right _ (Nat.le_add_right _ _)
theorem sl_size {ts : List TypeId} {ds : List (DataW H)} (hsz : (DataW.weightsEach Tryz.prog ts ds).all (· ≤ reachBytes) = true) {d : DataW H} {n b : Nat} {t e : TypeId} (s : SL d n) (ht : Tryz.prog.underlying t = some (.slice e)) (hb : Tryz.prog.bytesOf e = b)
    (hin : ∀ k, k ∈ d.weights Tryz.prog t → k ∈ DataW.weightsEach Tryz.prog ts ds) : n * b ≤ 140737488351232 := by
  rcases sl_weight s ht hb with h | ⟨k, hk, hle⟩
  · rw [h]; omega
  · have := List.all_eq_true.1 hsz _ (hin k hk)
    simp only [decide_eq_true_eq] at this
    unfold reachBytes at this
    omega
theorem cf_field {ts : List TypeId} {ds : List (DataW H)} {j : Nat} {d1 d2 d3 d4 d5 d6 : DataW H} (ht : ts[j]? = some 30) (hd : ds[j]? = some (.agg [d1, d2, d3, d4, d5, d6])) {i : Nat} {t : TypeId} {di : DataW H} (hi : [22, 23, 24, 25, 26, 28][i]? = some t) (hdi : [d1, d2, d3, d4, d5, d6][i]? = some di) : ∀ k, k ∈ di.weights Tryz.prog t → k ∈ DataW.weightsEach Tryz.prog ts ds := fun k hk => by
  refine DataW.weights_mem_each ht hd _ ?_
  simp only [DataW.weights, Tryz.underlying30]
  exact DataW.weights_mem_each hi hdi _ hk
theorem ro_field {es rest : List (DataW H)} {j : Nat} {d1 d2 d3 d4 d5 d6 : DataW H} (hd : es[j]? = some (.agg [d1, d2, d3, d4, d5, d6])) {i : Nat} {t : TypeId} {di : DataW H} (hi : [3, 3, 40, 41, 25, 4][i]? = some t) (hdi : [d1, d2, d3, d4, d5, d6][i]? = some di) : ∀ k, k ∈ di.weights Tryz.prog t → k ∈ (DataW.slice es rest : DataW H).weights Tryz.prog 26 := fun k hk => by
  simp only [DataW.weights, Tryz.underlying26]
  refine List.mem_cons_of_mem _ (List.mem_append.2 (.inl (weights_all hd ?_)))
  simp only [DataW.weights, Tryz.underlying43]
  exact DataW.weights_mem_each hi hdi _ hk
theorem Tryz.by1 : Tryz.prog.bytesOf 62 = 24 := by kernel_rfl
theorem Tryz.by2 : Tryz.prog.bytesOf 69 = 32 := by kernel_rfl
theorem Tryz.by3 : Tryz.prog.bytesOf 56 = 16 := by kernel_rfl
theorem Tryz.by4 : Tryz.prog.bytesOf 3 = 8 := by kernel_rfl
theorem Tryz.by5 : Tryz.prog.bytesOf 43 = 96 := by kernel_rfl
theorem Tryz.by6 : Tryz.prog.bytesOf 45 = 24 := by kernel_rfl
theorem Tryz.by7 : Tryz.prog.bytesOf 67 = 16 := by kernel_rfl
/-- what came in is a configuration that the contracts take -/
theorem conf_ok {w : World} {C : Cm} {d : DataW H} {ts : List TypeId} {ds : List (DataW H)} {j : Nat} (h : CfIn w C d) (hsz : (DataW.weightsEach Tryz.prog ts ds).all (· ≤ reachBytes) = true) (ht : ts[j]? = some 30) (hd : ds[j]? = some d) : C.Ok w := by
  obtain ⟨d1, d2, d3, d4, d5, d6, rfl, s1, s2, s3, s4, s5⟩ := h.data
  have m1 := h.m1
  have m2 := h.m2
  have m3 := h.m3
  have m4 := h.m4
  have m5 := h.m5
  unfold maxLen at m1 m2 m3 m4 m5
  have b1 := sl_size hsz s1 Tryz.underlying22 Tryz.by1 (cf_field ht hd (i := 0) rfl rfl)
  have b2 := sl_size hsz s2 Tryz.underlying23 Tryz.by2 (cf_field ht hd (i := 1) rfl rfl)
  have b3 := sl_size hsz s3 Tryz.underlying24 Tryz.by3 (cf_field ht hd (i := 2) rfl rfl)
  have b4 := sl_size hsz s4 Tryz.underlying25 Tryz.by4 (cf_field ht hd (i := 3) rfl rfl)
  have s5' : SL d5 C.rs.length := by
    rcases s5 with ⟨a, b⟩ | ⟨es, rest, a, b, _⟩
    · exact .inl ⟨a, by rw [b]; rfl⟩
    · exact .inr ⟨es, rest, a, b⟩
  have b5 := sl_size hsz s5' Tryz.underlying26 Tryz.by5 (cf_field ht hd (i := 4) rfl rfl)
  refine ⟨h.secs, h.jos, h.sigs, h.crs, h.rts, fun r hr => ?_, h.l1, h.l2, h.l3, h.l4, h.l5, b1, b2, b3, b4, b5, by omega, by omega, by omega, by omega, by omega⟩
  rcases s5 with ⟨_, e⟩ | ⟨es, rest, rfl, _, he⟩
  · rw [e] at hr; cases hr
  · obtain ⟨i, hi, rfl⟩ := List.mem_iff_getElem.1 hr
    obtain ⟨x, hxi, ⟨r1, r2, r3, i1, i2, i3, n1, n2, n3⟩, e0, e1, e2, e3, e4, e5, rfl, t1, t2, t3⟩ := he i hi
    unfold maxLen at n1 n2 n3
    have q1 := sl_size hsz t1 Tryz.underlying40 Tryz.by6 (fun k hk => cf_field ht hd (i := 4) rfl rfl k (ro_field (rest := rest) hxi (i := 2) rfl rfl k hk))
    have q2 := sl_size hsz t2 Tryz.underlying41 Tryz.by7 (fun k hk => cf_field ht hd (i := 4) rfl rfl k (ro_field (rest := rest) hxi (i := 3) rfl rfl k hk))
    have q3 := sl_size hsz t3 Tryz.underlying25 Tryz.by4 (fun k hk => cf_field ht hd (i := 4) rfl rfl k (ro_field (rest := rest) hxi (i := 4) rfl rfl k hk))
    exact ⟨r1, r2, r3, i1, i2, i3, q1, q2, q3, by omega, by omega, by omega⟩
end
end Go.Proofs.YtkkohdmneognlaaGreatDoor
/- Plain mathematics: the document's own answers of flanks, overlaps, locks and checks are those of XStat. -/
namespace Go.Proofs.YtkkohdmneognlaaGreatDoor

def inL (l : List Int) (n : Int) : Bool := l.any fun x => decide (x = n)
theorem inL_iff (l : List Int) (n : Int) : inL l n = true ↔ n ∈ l := by
  unfold inL
  rw [List.any_eq_true]
  constructor
  · rintro ⟨x, hx, h⟩
    rw [decide_eq_true_eq] at h
    exact h ▸ hx
  · intro h
    exact ⟨n, h, by simp⟩
theorem inL_append (a b : List Int) (n : Int) : inL (a ++ b) n = (inL a n || inL b n) := by
  unfold inL
  rw [List.any_append]
/-- a section's kind; -1: it is none -/
def rkind (l : List Sec) (s : Int) : Int := if isSecB l.length s = true then kindOf l s.toNat else -1
theorem rkind_ends (l : List Sec) (s : Int) : endsM (rkind l s) = endsOf l s := by
  unfold rkind endsOf
  split
  · rfl
  · decide
def secsOf (p : List St) : List Int := p.map St.sec

/-! ### The flank -/
def rflankOk (l : List Sec) (js : List Jo) (ps : List Int) (ap : Int) (listed : List Int) (s e : Int) : Bool :=
  nextOk js s e && (decide (rkind l (nextS js s e) = 1) && ((decide (nextE js s e = 1) || decide (nextE js s e = 2)) && (!inL ps (nextS js s e) && (!decide (nextS js s e = ap) && !inL listed (nextS js s e)))))
def rflankE (l : List Sec) (js : List Jo) (ps : List Int) (ap : Int) (x : St) (e : Int) (q : List Int × List Nd) : List Int × List Nd :=
  if (decide (e = x.inn) || decide (e = x.out)) = true then q
  else if rflankOk l js ps ap q.1 x.sec e = true then (q.1 ++ [nextS js x.sec e], q.2 ++ [guardN js x.sec e]) else q
def rflankI (l : List Sec) (js : List Jo) (ps : List Int) (ap : Int) (x : St) : List Int → List Int × List Nd → List Int × List Nd
  | [], q => q
  | e :: r, q => rflankI l js ps ap x r (rflankE l js ps ap x e q)
def rflankO (l : List Sec) (js : List Jo) (ps : List Int) (ap : Int) : List St → List Int × List Nd → List Int × List Nd
  | [], q => q
  | x :: r, q => rflankO l js ps ap r (rflankI l js ps ap x (endsL (endsM (rkind l x.sec))) q)
def rflankM (l : List Sec) (js : List Jo) (ap : Int) (path : List St) : List Nd := (rflankO l js (secsOf path) ap path ([], [])).2

/-- what is barred, and what is listed -/
def Likes (n : Nat) (ps : List Int) (ap : Int) (b : List Bool × List Nd) (q : List Int × List Nd) : Prop :=
  b.2 = q.2 ∧ b.1.length = n ∧ ∀ k : Nat, k < n → seenAt b.1 k = (inL ps k || (decide (ap = k) || inL q.1 k))
theorem rkind_one {l : List Sec} {s : Int} : rkind l s = 1 ↔ isSecB l.length s = true ∧ kindOf l s.toNat = 1 := by
  unfold rkind
  split
  · rename_i h; simp [h]
  · rename_i h; simp [h]
theorem flankE_ref {l : List Sec} {js : List Jo} {ps : List Int} {ap : Int} (x : St) (e : Int) {b : List Bool × List Nd} {q : List Int × List Nd} (h : Likes l.length ps ap b q) :
    Likes l.length ps ap (flankE l js x e b) (rflankE l js ps ap x e q) := by
  obtain ⟨h1, h2, h3⟩ := h
  unfold flankE rflankE
  by_cases hc : (decide (e = x.inn) || decide (e = x.out)) = true
  · rw [if_pos hc, if_pos hc]
    exact ⟨h1, h2, h3⟩
  · rw [if_neg hc, if_neg hc]
    have key : (guardOk l js x.sec e && !seenAt b.1 (nextS js x.sec e).toNat) = rflankOk l js ps ap q.1 x.sec e := by
      unfold guardOk rflankOk
      cases nextOk js x.sec e
      · rfl
      · simp only [Bool.true_and]
        by_cases hk : rkind l (nextS js x.sec e) = 1
        · obtain ⟨hs, hk1⟩ := rkind_one.1 hk
          rw [hs, hk1, hk]
          obtain ⟨k, e1, hlt⟩ := isSecB_true hs
          have := h3 k hlt
          rw [e1, Int.toNat_natCast, this]
          have ec : decide ((k : Int) = ap) = decide (ap = (k : Int)) := by
            by_cases e2 : ap = (k : Int)
            · simp [e2]
            · have : ¬ (k : Int) = ap := fun h => e2 h.symm
              simp [e2, this]
          rw [ec]
          simp only [decide_true, Bool.true_and]
          cases (decide (nextE js x.sec e = 1) || decide (nextE js x.sec e = 2)) <;> cases inL ps k <;> cases decide (ap = (k : Int)) <;> cases inL q.1 k <;> rfl
        · have hd : decide (rkind l (nextS js x.sec e) = 1) = false := by simp [hk]
          rw [hd, Bool.false_and]
          have hn : ¬ (isSecB l.length (nextS js x.sec e) = true ∧ kindOf l (nextS js x.sec e).toNat = 1) := fun h => hk (rkind_one.2 h)
          cases hs : isSecB l.length (nextS js x.sec e)
          · rfl
          · have : ¬ kindOf l (nextS js x.sec e).toNat = 1 := fun h => hn ⟨hs, h⟩
            simp [this]
    rw [key]
    by_cases ho : rflankOk l js ps ap q.1 x.sec e = true
    · rw [if_pos ho, if_pos ho]
      have hs : isSecB l.length (nextS js x.sec e) = true := by
        rw [← key] at ho
        simp [guardOk] at ho
        exact ho.1.2.1
      obtain ⟨k, e1, hlt⟩ := isSecB_true hs
      refine ⟨?_, ?_, ?_⟩
      · show b.2 ++ _ = q.2 ++ _
        rw [h1]
      · show (b.1.set _ true).length = _
        rw [List.length_set, h2]
      · intro j hj
        show seenAt (b.1.set _ true) j = (inL ps j || (decide (ap = j) || inL (q.1 ++ [nextS js x.sec e]) j))
        rw [e1, Int.toNat_natCast, seenAt_set _ _ _ (by omega), h3 j hj, inL_append]
        have : inL [(k : Int)] j = decide (k = j) := by
          unfold inL
          by_cases e3 : k = j
          · simp [e3]
          · have : ¬ (k : Int) = (j : Int) := by omega
            simp [e3, this]
        rw [this]
        cases decide (k = j) <;> cases inL ps j <;> cases decide (ap = (j : Int)) <;> cases inL q.1 j <;> rfl
    · rw [if_neg ho, if_neg ho]
      exact ⟨h1, h2, h3⟩
theorem flankI_ref {l : List Sec} {js : List Jo} {ps : List Int} {ap : Int} (x : St) : ∀ (es : List Int) {b : List Bool × List Nd} {q : List Int × List Nd}, Likes l.length ps ap b q → Likes l.length ps ap (flankI l js x es b) (rflankI l js ps ap x es q)
  | [], _, _, h => h
  | e :: r, _, _, h => by
    rw [flankI, rflankI]
    exact flankI_ref x r (flankE_ref x e h)
theorem flankO_ref {l : List Sec} {js : List Jo} {ps : List Int} {ap : Int} : ∀ (p : List St) {b : List Bool × List Nd} {q : List Int × List Nd}, Likes l.length ps ap b q → Likes l.length ps ap (flankO l js p b) (rflankO l js ps ap p q)
  | [], _, _, h => h
  | x :: r, _, _, h => by
    rw [flankO, rflankO, rkind_ends]
    exact flankO_ref r (flankI_ref x _ h)
theorem any_secs (p : List St) (k : Nat) : (p.any fun x => decide (x.sec = k)) = inL (secsOf p) k := by
  unfold inL secsOf
  rw [List.any_map]
  rfl
theorem flank_ref (l : List Sec) (js : List Jo) (ap : Int) (path : List St) : flankM l js ap path = rflankM l js ap path := by
  have h : Likes l.length (secsOf path) ap (barM l.length ap path, []) ([], []) := by
    refine ⟨rfl, barM_length _ _ _, fun k hk => ?_⟩
    show seenAt (barM l.length ap path) k = _
    rw [barM_at _ _ _ _ hk, any_secs]
    show _ = (inL (secsOf path) k || (decide (ap = (k : Int)) || false))
    rw [Bool.or_false]
  exact (flankO_ref path h).1

/-! ### The overlap -/
def roverOk (l : List Sec) (js : List Jo) (sg : List Sg) (r : Rt) : Bool :=
  !r.shunt && (isSecB sg.length r.exit && (nextOk js (sgAt sg r.exit).sec (sgAt sg r.exit).fin && (isSecB l.length (nextS js (sgAt sg r.exit).sec (sgAt sg r.exit).fin) &&
    (!inL (secsOf r.path) (nextS js (sgAt sg r.exit).sec (sgAt sg r.exit).fin) && (!decide (nextS js (sgAt sg r.exit).sec (sgAt sg r.exit).fin = apM sg r.entry) && decide (lineOf l (nextS js (sgAt sg r.exit).sec (sgAt sg r.exit).fin).toNat = 0))))))
theorem over_ref (l : List Sec) (js : List Jo) (sg : List Sg) (r : Rt) : overOk l js sg r = roverOk l js sg r := by
  unfold overOk roverOk
  generalize nextS js (sgAt sg r.exit).sec (sgAt sg r.exit).fin = q
  cases r.shunt
  · cases isSecB sg.length r.exit
    · rfl
    · cases nextOk js (sgAt sg r.exit).sec (sgAt sg r.exit).fin
      · rfl
      · cases hs : isSecB l.length q
        · rfl
        · obtain ⟨k, rfl, hlt⟩ := isSecB_true hs
          rw [Int.toNat_natCast, barM_at _ _ _ _ hlt, any_secs]
          have ec : decide ((k : Int) = apM sg r.entry) = decide (apM sg r.entry = (k : Int)) := by
            by_cases e2 : apM sg r.entry = (k : Int)
            · simp [e2]
            · have : ¬ (k : Int) = apM sg r.entry := fun h => e2 h.symm
              simp [e2, this]
          rw [ec]
          cases inL (secsOf r.path) k <;> cases decide (apM sg r.entry = (k : Int)) <;> cases decide (lineOf l k = 0) <;> rfl
  · rfl
end Go.Proofs.YtkkohdmneognlaaGreatDoor
/- A right station in which one route is another one, and a route that is made a shunt one (plain mathematics). -/
namespace Go.Proofs.YtkkohdmneognlaaGreatDoor
open Go.RowKit

/-- a route's first error -/
def errR (l : List Sec) (js : List Jo) (sg : List Sg) (r : Rt) : Int := if routeB l js sg r = false then 9 else if r.flank ≠ flankM l js (apM sg r.entry) r.path then 10 else if r.over ≠ overM l js sg r then 11 else 0
theorem routesE_cons (l : List Sec) (js : List Jo) (sg : List Sg) (r : Rt) (rs : List Rt) : routesE l js sg (r :: rs) = if errR l js sg r ≠ 0 then errR l js sg r else routesE l js sg rs := by
  rw [routesE]
  unfold errR
  split
  · simp
  · split
    · simp
    · split
      · simp
      · simp
theorem routesE_zero {l : List Sec} {js : List Jo} {sg : List Sg} : ∀ {rs : List Rt}, routesE l js sg rs = 0 → ∀ r ∈ rs, errR l js sg r = 0
  | [], _, _, h => by cases h
  | x :: rs, h0, r, hr => by
    rw [routesE_cons] at h0
    by_cases hx : errR l js sg x = 0
    · rw [if_neg (by simpa using hx)] at h0
      rcases List.mem_cons.1 hr with e | hr
      · rw [e]; exact hx
      · exact routesE_zero h0 r hr
    · rw [if_pos hx] at h0
      exact absurd h0 hx
theorem routesE_set {l : List Sec} {js : List Jo} {sg : List Sg} (x : Rt) : ∀ {rs : List Rt} {n : Nat}, routesE l js sg rs = 0 → n < rs.length → routesE l js sg (rs.set n x) = errR l js sg x
  | y :: rs, 0, h0, _ => by
    have hy := routesE_zero h0 y List.mem_cons_self
    rw [routesE_cons, if_neg (by simpa using hy)] at h0
    rw [List.set_cons_zero, routesE_cons, h0]
    by_cases hx : errR l js sg x = 0
    · rw [if_neg (by simpa using hx), hx]
    · rw [if_pos hx]
  | y :: rs, n + 1, h0, hn => by
    have hy := routesE_zero h0 y List.mem_cons_self
    rw [routesE_cons, if_neg (by simpa using hy)] at h0
    rw [List.set_cons_succ, routesE_cons, if_neg (by simpa using hy)]
    exact routesE_set x h0 (by simpa using hn)
/-- what a right station is -/
theorem check_parts {c : Cf} (h : checkE c = 0) : checkB c.secs c.jos = true ∧ (decide (c.sigs.length ≤ 12) && sigsB c.jos c.sigs) = true ∧ (decide (c.crs.length ≤ 4) && crsB c.secs c.crs) = true ∧ c.rts.length ≤ 12 ∧ routesE c.secs c.jos c.sigs c.rts = 0 ∧ timeB c.tm = true := by
  unfold checkE at h
  cases h1 : checkB c.secs c.jos with
  | false => rw [h1] at h; simp at h
  | true =>
    rw [h1, if_neg (by decide)] at h
    cases h2 : (decide (c.sigs.length ≤ 12) && sigsB c.jos c.sigs) with
    | false => rw [h2] at h; simp at h
    | true =>
      rw [h2, if_neg (by decide)] at h
      cases h3 : (decide (c.crs.length ≤ 4) && crsB c.secs c.crs) with
      | false => rw [h3] at h; simp at h
      | true =>
        rw [h3, if_neg (by decide)] at h
        by_cases h4 : c.rts.length ≤ 12
        · rw [if_neg (by simpa using h4)] at h
          by_cases h5 : routesE c.secs c.jos c.sigs c.rts = 0
          · rw [if_neg (by simpa using h5)] at h
            cases h6 : timeB c.tm with
            | false => rw [h6] at h; simp at h
            | true => exact ⟨rfl, rfl, rfl, h4, h5, rfl⟩
          · rw [if_pos h5] at h
            exact absurd h h5
        · rw [if_pos h4] at h
          simp at h
theorem check_set {c : Cf} (h : checkE c = 0) {n : Nat} (hn : n < c.rts.length) (x : Rt) : checkE { c with rts := c.rts.set n x } = errR c.secs c.jos c.sigs x := by
  obtain ⟨h1, h2, h3, h4, h5, h6⟩ := check_parts h
  unfold checkE
  dsimp only
  rw [h1, h2, h3, h6, if_neg (by decide), if_neg (by decide), if_neg (by decide), if_neg (by rw [List.length_set]; simpa using h4), routesE_set x h5 hn]
  by_cases hx : errR c.secs c.jos c.sigs x = 0
  · rw [if_neg (by simpa using hx), hx, if_neg (by decide)]
  · rw [if_pos hx]
theorem errR_parts {l : List Sec} {js : List Jo} {sg : List Sg} {r : Rt} (h : errR l js sg r = 0) : routeB l js sg r = true ∧ r.flank = flankM l js (apM sg r.entry) r.path ∧ r.over = overM l js sg r := by
  unfold errR at h
  cases h1 : routeB l js sg r with
  | false => rw [h1] at h; simp at h
  | true =>
    rw [h1, if_neg (by decide)] at h
    by_cases h2 : r.flank = flankM l js (apM sg r.entry) r.path
    · rw [if_neg (by simpa using h2)] at h
      by_cases h3 : r.over = overM l js sg r
      · exact ⟨rfl, h2, h3⟩
      · rw [if_pos h3] at h; simp at h
    · rw [if_pos h2] at h; simp at h
/-- a right route, made a shunt one -/
theorem shunt_err {l : List Sec} {js : List Jo} {sg : List Sg} {r : Rt} (h : errR l js sg r = 0) (o : List Int) : errR l js sg { r with shunt := true, over := o } = if linedB l r.path = true then 9 else if o = [] then 0 else 11 := by
  obtain ⟨h1, h2, h3⟩ := errR_parts h
  have hb : routeB l js sg { r with shunt := true, over := o } = !linedB l r.path := by
    unfold routeB at h1 ⊢
    simp only [Bool.and_eq_true] at h1
    obtain ⟨a1, a2, a3, a4, a5, a6, ⟨a7, a8⟩, a9⟩ := h1
    dsimp only
    rw [a1, a2, a3, a4, a5, a6, a7, a8]
    simp
  have ho : overM l js sg { r with shunt := true, over := o } = [] := by
    unfold overM overOk
    simp
  unfold errR
  rw [hb, ho]
  dsimp only
  cases hl : linedB l r.path with
  | true => simp
  | false =>
    rw [if_neg (by decide), if_neg (by simpa using h2)]
    by_cases e : o = []
    · rw [if_neg (by simpa using e), if_neg (by decide), if_pos e]
    · rw [if_pos e, if_neg (by decide), if_neg e]
/-- of a right station each route's sections are sections -/
theorem path_in {c : Cf} (h : checkE c = 0) {r : Rt} (hr : r ∈ c.rts) : ∀ x ∈ r.path, isSecB c.secs.length x.sec = true := by
  obtain ⟨h1, h2, h3, h4, h5, h6⟩ := check_parts h
  obtain ⟨a, _, _⟩ := errR_parts (routesE_zero h5 r hr)
  unfold checkB at h1
  unfold routeB at a
  simp only [Bool.and_eq_true] at h1 a
  exact hangs_in h1.2.2.1 r.path _ _ _ (fun hn => next_in h1.2.2.1 hn) a.2.2.2.2.1
def linedP (l : List Sec) (p : List St) : Bool := p.any fun x => decide (0 < lineOf l x.sec.toNat)
theorem line_pos {l : List Sec} (h : sectionsB l = true) : ∀ k, 0 ≤ lineOf l k := by
  induction l with
  | nil => intro k; unfold lineOf; simp [default]
  | cons x r ih =>
    rw [sectionsB, Bool.and_eq_true] at h
    intro k
    rcases k with _ | k
    · have := h.1
      unfold secOkB at this
      simp only [Bool.and_eq_true, decide_eq_true_eq] at this
      exact this.1.2
    · exact ih h.2 k
theorem lined_eq {l : List Sec} (h : sectionsB l = true) : ∀ (p : List St), linedP l p = linedB l p
  | [] => rfl
  | x :: r => by
    have ih := lined_eq h r
    have hx := line_pos h x.sec.toNat
    unfold linedP at ih ⊢
    rw [List.any_cons, ih, linedB]
    congr 1
    by_cases e : lineOf l x.sec.toNat = 0
    · rw [e]; decide
    · have : 0 < lineOf l x.sec.toNat := by omega
      simp [e, this]
end Go.Proofs.YtkkohdmneognlaaGreatDoor

/- How arguments are read that are plans, steps, and pairs of numbers. -/
import Derived.Test.YtgommmaipifpaaaNext
import Derived.Test.YtgommmaipifpaaaInts
import Derived.Deep.Slices
import Derived.Lib.SmallJoins
namespace Go.Proofs.Ytgommmaipifpaaa
open Go.ChangeShapes Go.WideShapes Go.ChangeAt Go.RowKit Go.Deep Go.Joins

theorem Try.cellsSec : Try.prog.cellsOf 28 = 3 := by kernel_rfl
theorem Try.cellsJo : Try.prog.cellsOf 30 = 4 := by kernel_rfl
theorem Try.cellsPlan : Try.prog.cellsOf 25 = 2 := by kernel_rfl
theorem Try.cellsStep : Try.prog.cellsOf 37 = 3 := by kernel_rfl
theorem Try.cellsPair : Try.prog.cellsOf 51 = 2 := by kernel_rfl
theorem bytes_sec : Try.prog.bytesOf 28 = 24 := by kernel_rfl
theorem bytes_jo : Try.prog.bytesOf 30 = 32 := by kernel_rfl

section
variable {H : Type} {enc : TypeId × Value → H} {w : World} {base : Nat}
theorem int_of {n : Nat} {c : Value} {y : DataW H × List MemPlace} (h : DataW.trod enc Try.prog w 0 (fun _ => true) true n 3 [c] = some y) : ∃ a : Int, c = .int .i64 a ∧ -9223372036854775808 ≤ a ∧ a ≤ 9223372036854775807 := by
  obtain ⟨a, e, _, wa⟩ := DataW.trod_int Try.underlying3 h
  refine ⟨a, by injection e, ?_⟩
  simp only [Lit.wf, IntKind.min, IntKind.max, IntKind.signed, IntKind.bits, Bool.and_eq_true, decide_eq_true_eq, if_true] at wa
  have := wa.1
  have := wa.2
  omega
theorem sec_of {n : Nat} {cs : List Value} {y : DataW H × List MemPlace} (h : DataW.trod enc Try.prog w 0 (fun _ => true) true n 28 cs = some y) : ∃ s : Sec, cs = [.int .i64 s.kind, .int .i64 s.oc, .int .i64 s.line] := by
  obtain ⟨xs, m, _, hx, hlen, hxl, hf⟩ := DataW.trod_struct Try.underlying28 h
  rw [Try.cellsSec] at hlen
  match cs, hlen with
  | [c0, c1, c2], _ =>
    match xs, hxl with
    | [x0, x1, x2], _ =>
      have h0 : DataW.trod enc Try.prog w 0 (fun _ => true) true m 3 (([c0, c1, c2].drop 0).take (Try.prog.cellsOf 3)) = some x0 := hf 0 _ rfl
      have h1 : DataW.trod enc Try.prog w 0 (fun _ => true) true m 3 (([c0, c1, c2].drop 1).take (Try.prog.cellsOf 3)) = some x1 := hf 1 _ rfl
      have h2 : DataW.trod enc Try.prog w 0 (fun _ => true) true m 3 (([c0, c1, c2].drop 2).take (Try.prog.cellsOf 3)) = some x2 := hf 2 _ rfl
      rw [Try.cellInt] at h0 h1 h2
      obtain ⟨a, rfl, _⟩ := int_of (show DataW.trod enc Try.prog w 0 (fun _ => true) true m 3 [c0] = some x0 from h0)
      obtain ⟨b, rfl, _⟩ := int_of (show DataW.trod enc Try.prog w 0 (fun _ => true) true m 3 [c1] = some x1 from h1)
      obtain ⟨c, rfl, _⟩ := int_of (show DataW.trod enc Try.prog w 0 (fun _ => true) true m 3 [c2] = some x2 from h2)
      exact ⟨⟨a, b, c⟩, rfl⟩
theorem jo_of {n : Nat} {cs : List Value} {y : DataW H × List MemPlace} (h : DataW.trod enc Try.prog w 0 (fun _ => true) true n 30 cs = some y) : ∃ s : Jo, cs = [.int .i64 s.a, .int .i64 s.ae, .int .i64 s.b, .int .i64 s.be] := by
  obtain ⟨xs, m, _, hx, hlen, hxl, hf⟩ := DataW.trod_struct Try.underlying30 h
  rw [Try.cellsJo] at hlen
  match cs, hlen with
  | [c0, c1, c2, c3], _ =>
    match xs, hxl with
    | [x0, x1, x2, x3], _ =>
      have h0 : DataW.trod enc Try.prog w 0 (fun _ => true) true m 3 (([c0, c1, c2, c3].drop 0).take (Try.prog.cellsOf 3)) = some x0 := hf 0 _ rfl
      have h1 : DataW.trod enc Try.prog w 0 (fun _ => true) true m 3 (([c0, c1, c2, c3].drop 1).take (Try.prog.cellsOf 3)) = some x1 := hf 1 _ rfl
      have h2 : DataW.trod enc Try.prog w 0 (fun _ => true) true m 3 (([c0, c1, c2, c3].drop 2).take (Try.prog.cellsOf 3)) = some x2 := hf 2 _ rfl
      have h3 : DataW.trod enc Try.prog w 0 (fun _ => true) true m 3 (([c0, c1, c2, c3].drop 3).take (Try.prog.cellsOf 3)) = some x3 := hf 3 _ rfl
      rw [Try.cellInt] at h0 h1 h2 h3
      obtain ⟨a, rfl, _⟩ := int_of (show DataW.trod enc Try.prog w 0 (fun _ => true) true m 3 [c0] = some x0 from h0)
      obtain ⟨b, rfl, _⟩ := int_of (show DataW.trod enc Try.prog w 0 (fun _ => true) true m 3 [c1] = some x1 from h1)
      obtain ⟨c, rfl, _⟩ := int_of (show DataW.trod enc Try.prog w 0 (fun _ => true) true m 3 [c2] = some x2 from h2)
      obtain ⟨d, rfl, _⟩ := int_of (show DataW.trod enc Try.prog w 0 (fun _ => true) true m 3 [c3] = some x3 from h3)
      exact ⟨⟨a, b, c, d⟩, rfl⟩

theorem exists_fun {α : Type} [Inhabited α] {m : Nat} {Q : Nat → α → Prop} (h : ∀ i, i < m → ∃ a, Q i a) : ∃ f : Nat → α, ∀ i, i < m → Q i (f i) := by
  classical
  refine ⟨fun i => if hi : i < m then (h i hi).choose else default, fun i hi => ?_⟩
  simp only [hi, dif_pos]
  exact (h i hi).choose_spec
/-- a flat list of cells, place by place -/
theorem flat_at {α : Type} (g : α → List Value) (size : Nat) (hg : ∀ a, (g a).length = size) : ∀ (l : List α) (j : Nat) (u : Value), (l.flatMap g)[j]? = some u → ∃ i k, j = i * size + k ∧ k < size ∧ ∃ h : i < l.length, (g l[i])[k]? = some u
  | [], j, u, h => by simp at h
  | a :: r, j, u, h => by
    rw [List.flatMap_cons] at h
    by_cases hj : j < size
    · rw [List.getElem?_append_left (by rw [hg]; exact hj)] at h
      exact ⟨0, j, by omega, hj, by simp, h⟩
    · rw [List.getElem?_append_right (by rw [hg]; omega), hg] at h
      obtain ⟨i, k, e, hk, hi, hu⟩ := flat_at g size hg r (j - size) u h
      exact ⟨i + 1, k, by rw [Nat.add_mul]; omega, hk, by simpa using hi, by simpa using hu⟩
/-- A slice of structs that came in: read as a flat row. -/
theorem open_flat {α : Type} [Inhabited α] {t e : TypeId} {n : Nat} {v : Value} {y : DataW H × List MemPlace} (size : Nat) (g : α → List Value) (hg : ∀ a, (g a).length = size) (ht : Try.prog.underlying t = some (.slice e)) (hc : Try.prog.cellsOf e = size)
    (hof : ∀ (n : Nat) (cs : List Value) (y : DataW H × List MemPlace), DataW.trod enc Try.prog w 0 (fun _ => true) true n e cs = some y → ∃ a : α, cs = g a) (h : DataW.trod enc Try.prog w 0 (fun _ => true) true n t [v] = some y) :
    ∃ (A : Option Addr) (c : Nat) (l : List α), v = .slice A l.length c ∧ Rd w A (l.flatMap g) ∧ l.length ≤ c ∧ c ≤ maxLen ∧ ((y.1 = .nil ∧ l = []) ∨ ∃ es rest, y.1 = .slice es rest ∧ es.length = l.length) := by
  rcases open_slice ht h with ⟨hcs, hx⟩ | ⟨a, len, cap, m, n', D, Pl, hcs, hb, hl, hm, hmm, hx, hi⟩
  · simp only [List.cons.injEq, and_true] at hcs
    exact ⟨none, 0, [], hcs, fun h => by simp at h, Nat.zero_le _, Nat.zero_le _, .inl ⟨by rw [hx], rfl⟩⟩
  · simp only [List.cons.injEq, and_true] at hcs
    have hmc : m = cap := by simpa using hmm
    subst hmc
    rw [hc] at hi
    have hq : ∀ i, i < len → ∃ x : α, ∀ j, j < size → w.cell? ((a.add (i * size)).add j) = (g x)[j]? := by
      intro i hil
      obtain ⟨cs', hc', ht'⟩ := hi i (by omega)
      obtain ⟨x, rfl⟩ := hof _ _ _ ht'
      exact ⟨x, (World.cells?_some hc').2.2⟩
    obtain ⟨f, hfn⟩ := exists_fun hq
    refine ⟨some a, m, (List.range len).map f, by simp [hcs], rd_of fun j u hu => ?_, by simpa using hl, hm, .inr ⟨_, _, by rw [hx], by simp⟩⟩
    obtain ⟨i, k, rfl, hk, hil, hu⟩ := flat_at g size hg _ j u hu
    have hil' : i < len := by simpa using hil
    have := hfn i hil' k hk
    rw [← Go.Deep.add_add, this]
    simpa using hu
theorem open_secs {n : Nat} {v : Value} {y : DataW H × List MemPlace} (h : DataW.trod enc Try.prog w 0 (fun _ => true) true n 22 [v] = some y) :
    ∃ (A : Option Addr) (c : Nat) (l : List Sec), v = .slice A l.length c ∧ Rd w A (cellsS l) ∧ l.length ≤ c ∧ c ≤ maxLen ∧ ((y.1 = .nil ∧ l = []) ∨ ∃ es rest, y.1 = .slice es rest ∧ es.length = l.length) :=
  open_flat 3 (fun s : Sec => [.int .i64 s.kind, .int .i64 s.oc, .int .i64 s.line]) (fun _ => rfl) Try.underlying22 Try.cellsSec (fun _ _ _ h => sec_of h) h
theorem open_jos {n : Nat} {v : Value} {y : DataW H × List MemPlace} (h : DataW.trod enc Try.prog w 0 (fun _ => true) true n 23 [v] = some y) :
    ∃ (A : Option Addr) (c : Nat) (l : List Jo), v = .slice A l.length c ∧ Rd w A (cellsJ l) ∧ l.length ≤ c ∧ c ≤ maxLen ∧ ((y.1 = .nil ∧ l = []) ∨ ∃ es rest, y.1 = .slice es rest ∧ es.length = l.length) :=
  open_flat 4 (fun j : Jo => [.int .i64 j.a, .int .i64 j.ae, .int .i64 j.b, .int .i64 j.be]) (fun _ => rfl) Try.underlying23 Try.cellsJo (fun _ _ _ h => jo_of h) h

/-- A plan that came in. -/
theorem open_plan {v : Value} {d : DataW H} {ps : List MemPlace} (hv : Value.okWide Try.prog w .any base 25 v) (h : DataW.Trod enc Try.prog w 0 (fun _ => true) true 25 v d ps) :
    ∃ (A1 : Option Addr) (c1 : Nat) (l : List Sec) (A2 : Option Addr) (c2 : Nat) (js : List Jo) (d1 d2 : DataW H), v = .agg #[.slice A1 l.length c1, .slice A2 js.length c2] ∧ d = .agg [d1, d2] ∧ Rd w A1 (cellsS l) ∧ Rd w A2 (cellsJ js) ∧ l.length ≤ c1 ∧ c1 ≤ maxLen ∧ js.length ≤ c2 ∧ c2 ≤ maxLen ∧
      ((d1 = .nil ∧ l = []) ∨ ∃ es rest, d1 = .slice es rest ∧ es.length = l.length) ∧ ((d2 = .nil ∧ js = []) ∨ ∃ es rest, d2 = .slice es rest ∧ es.length = js.length) := by
  obtain ⟨v0, v1, y0, y1, n, rfl, rfl, _, h0, h1⟩ := open_agg2 Try.underlying25 (by kernel_rfl) Try.cellsPlan hv h
  obtain ⟨A1, c1, l, rfl, r1, k1, m1, s1⟩ := open_secs h0
  obtain ⟨A2, c2, js, rfl, r2, k2, m2, s2⟩ := open_jos h1
  exact ⟨A1, c1, l, A2, c2, js, y0.1, y1.1, rfl, rfl, r1, r2, k1, m1, k2, m2, s1, s2⟩
theorem plan_sizes {ts : List TypeId} {ds : List (DataW H)} (hsz : (DataW.weightsEach Try.prog ts ds).all (· ≤ reachBytes) = true) {j : Nat} {d1 d2 : DataW H} {l : List Sec} {js : List Jo} (ht : ts[j]? = some 25) (hd : ds[j]? = some (.agg [d1, d2]))
    (s1 : (d1 = .nil ∧ l = []) ∨ ∃ es rest, d1 = .slice es rest ∧ es.length = l.length) (s2 : (d2 = .nil ∧ js = []) ∨ ∃ es rest, d2 = .slice es rest ∧ es.length = js.length) : l.length * 24 ≤ 140737488351232 ∧ js.length * 32 ≤ 140737488351232 := by
  constructor
  · rcases s1 with ⟨_, rfl⟩ | ⟨es, rest, rfl, hl⟩
    · simp
    · have hm : (es.length + rest.length) * 24 ∈ DataW.weightsEach Try.prog ts ds := by
        refine DataW.weights_mem_each ht hd _ ?_
        simp only [DataW.weights, Try.underlying25]
        simp only [List.map_cons, List.map_nil, DataW.weightsEach, DataW.weights, Try.underlying22, bytes_sec]
        simp
      have := List.all_eq_true.1 hsz _ hm
      simp only [decide_eq_true_eq] at this
      unfold reachBytes at this
      omega
  · rcases s2 with ⟨_, rfl⟩ | ⟨es, rest, rfl, hl⟩
    · simp
    · have hm : (es.length + rest.length) * 32 ∈ DataW.weightsEach Try.prog ts ds := by
        refine DataW.weights_mem_each ht hd _ ?_
        simp only [DataW.weights, Try.underlying25]
        simp only [List.map_cons, List.map_nil, DataW.weightsEach, DataW.weights, Try.underlying23, bytes_jo]
        simp
      have := List.all_eq_true.1 hsz _ hm
      simp only [decide_eq_true_eq] at this
      unfold reachBytes at this
      omega
/-- A step that came in. -/
theorem open_step {v : Value} {d : DataW H} {ps : List MemPlace} (hv : Value.okWide Try.prog w .any base 37 v) (h : DataW.Trod enc Try.prog w 0 (fun _ => true) true 37 v d ps) :
    ∃ a b c : Int, v = .agg #[.int .i64 a, .int .i64 b, .int .i64 c] := by
  obtain ⟨v0, v1, v2, y0, y1, y2, n, rfl, _, _, h0, h1, h2⟩ := open_agg3 Try.underlying37 (by kernel_rfl) Try.cellsStep hv h
  obtain ⟨a, rfl, _⟩ := int_of h0
  obtain ⟨b, rfl, _⟩ := int_of h1
  obtain ⟨c, rfl, _⟩ := int_of h2
  exact ⟨a, b, c, rfl⟩
/-- A pair of numbers that came in. -/
theorem open_pair {v : Value} {d : DataW H} {ps : List MemPlace} (hv : Value.okWide Try.prog w .any base 51 v) (h : DataW.Trod enc Try.prog w 0 (fun _ => true) true 51 v d ps) :
    ∃ a b : Int, v = .agg #[.int .i64 a, .int .i64 b] := by
  simp only [Value.okWide, Try.underlying51] at hv
  obtain ⟨cs, rfl, hcs, _⟩ := hv
  rw [Try.cellsPair] at hcs
  obtain ⟨fuel, hf⟩ := h
  obtain ⟨xs, m, _, _, _, hxl, hel⟩ := DataW.trod_array Try.underlying51 hf
  obtain ⟨c0, c1, hl⟩ : ∃ c0 c1, cs = #[c0, c1] := by
    obtain ⟨l⟩ := cs
    match l, hcs with
    | [c0, c1], _ => exact ⟨c0, c1, rfl⟩
  subst hl
  match xs, hxl with
  | [x0, x1], _ =>
    have h0 := hel 0 (by omega)
    have h1 := hel 1 (by omega)
    rw [Try.cellInt] at h0 h1
    obtain ⟨a, rfl, _⟩ := int_of (show DataW.trod enc Try.prog w 0 (fun _ => true) true m 3 [c0] = some x0 from h0)
    obtain ⟨b, rfl, _⟩ := int_of (show DataW.trod enc Try.prog w 0 (fun _ => true) true m 3 [c1] = some x1 from h1)
    exact ⟨a, b, rfl⟩
end
end Go.Proofs.Ytgommmaipifpaaa

/- How an argument that is a configuration is read: its sections, signals and crossings; of the rest that it is there. -/
import Derived.Test.YtmohefkingnknaaTopen
namespace Go.Proofs.Ytmohefkingnknaa.Te
open Go.ChangeShapes Go.WideShapes Go.ChangeAt Go.RowKit Go.Deep Go.Joins

structure Sec where
  kind : Int
  oc : Int
  line : Int
instance : Inhabited Sec := ⟨⟨0, 0, 0⟩⟩
structure Sg where
  sec : Int
  fin : Int
instance : Inhabited Sg := ⟨⟨0, 0⟩⟩
structure Tm where
  age : Int
  brake : Int
  hold : Int
  budget : Int
def cellsS (l : List Sec) : List Value := l.flatMap fun s => [.int .i64 s.kind, .int .i64 s.oc, .int .i64 s.line]
def cellsG (l : List Sg) : List Value := l.flatMap fun s => [.int .i64 s.sec, .int .i64 s.fin]
theorem cellsS_at {l : List Sec} {j : Nat} (h : j < l.length) : (cellsS l)[j * 3]? = some (.int .i64 l[j].kind) ∧ (cellsS l)[j * 3 + 1]? = some (.int .i64 l[j].oc) ∧ (cellsS l)[j * 3 + 2]? = some (.int .i64 l[j].line) := by
  induction l generalizing j with
  | nil => simp at h
  | cons v r ih =>
    have e : cellsS (v :: r) = [.int .i64 v.kind, .int .i64 v.oc, .int .i64 v.line] ++ cellsS r := rfl
    rcases j with _ | j
    · rw [e]; simp
    · have := ih (j := j) (by simpa using h)
      rw [e, show (j + 1) * 3 = 3 + j * 3 by omega, show 3 + j * 3 + 1 = 3 + (j * 3 + 1) by omega, show 3 + j * 3 + 2 = 3 + (j * 3 + 2) by omega]
      rw [List.getElem?_append_right (by simp), List.getElem?_append_right (by simp), List.getElem?_append_right (by simp)]
      simpa using this
theorem cellsG_at {l : List Sg} {j : Nat} (h : j < l.length) : (cellsG l)[j * 2]? = some (.int .i64 l[j].sec) ∧ (cellsG l)[j * 2 + 1]? = some (.int .i64 l[j].fin) := by
  induction l generalizing j with
  | nil => simp at h
  | cons v r ih =>
    have e : cellsG (v :: r) = [.int .i64 v.sec, .int .i64 v.fin] ++ cellsG r := rfl
    rcases j with _ | j
    · rw [e]; simp
    · have := ih (j := j) (by simpa using h)
      rw [e, show (j + 1) * 2 = 2 + j * 2 by omega, show 2 + j * 2 + 1 = 2 + (j * 2 + 1) by omega]
      rw [List.getElem?_append_right (by simp), List.getElem?_append_right (by simp)]
      simpa using this
theorem rd_sec {w : World} {A : Option Addr} {l : List Sec} (h : Rd w A (cellsS l)) {j : Nat} (hj : j < l.length) : ∃ g o, A = some ⟨g, o, none⟩ ∧ g < w.heap.size ∧ w.cell? ⟨g, o + j * 3, none⟩ = some (.int .i64 l[j].kind) ∧ w.cell? ⟨g, o + j * 3 + 1, none⟩ = some (.int .i64 l[j].oc) ∧ w.cell? ⟨g, o + j * 3 + 2, none⟩ = some (.int .i64 l[j].line) := by
  obtain ⟨h0, h1, h2⟩ := cellsS_at hj
  obtain ⟨g, o, rfl, hg, hc⟩ := h (by have := (List.getElem?_eq_some_iff.1 h0).1; omega)
  exact ⟨g, o, rfl, hg, hc _ _ h0, hc _ _ h1, hc _ _ h2⟩
theorem rd_sg {w : World} {A : Option Addr} {l : List Sg} (h : Rd w A (cellsG l)) {j : Nat} (hj : j < l.length) : ∃ g o, A = some ⟨g, o, none⟩ ∧ g < w.heap.size ∧ w.cell? ⟨g, o + j * 2, none⟩ = some (.int .i64 l[j].sec) ∧ w.cell? ⟨g, o + j * 2 + 1, none⟩ = some (.int .i64 l[j].fin) := by
  obtain ⟨h0, h1⟩ := cellsG_at hj
  obtain ⟨g, o, rfl, hg, hc⟩ := h (by have := (List.getElem?_eq_some_iff.1 h0).1; omega)
  exact ⟨g, o, rfl, hg, hc _ _ h0, hc _ _ h1⟩
/-- a configuration that is read -/
structure Cf where
  A1 : Option Addr
  c1 : Nat
  l : List Sec
  A2 : Option Addr
  n2 : Nat
  c2 : Nat
  A3 : Option Addr
  c3 : Nat
  sg : List Sg
  A4 : Option Addr
  c4 : Nat
  cr : List Int
  A5 : Option Addr
  n5 : Nat
  c5 : Nat
  t : Tm
def Cf.cells (C : Cf) : List Value := [.slice C.A1 C.l.length C.c1, .slice C.A2 C.n2 C.c2, .slice C.A3 C.sg.length C.c3, .slice C.A4 C.cr.length C.c4, .slice C.A5 C.n5 C.c5, .int .i64 C.t.age, .int .i64 C.t.brake, .int .i64 C.t.hold, .int .i64 C.t.budget]
def Cf.val (C : Cf) : Value := .agg C.cells.toArray
structure Cf.Ok (w : World) (C : Cf) : Prop where
  secs : Rd w C.A1 (cellsS C.l)
  sigs : Rd w C.A3 (cellsG C.sg)
  crs : Rd w C.A4 (C.cr.map (Value.int .i64))
  b1 : C.l.length ≤ 17592186044416
  b3 : C.sg.length ≤ 17592186044416
  b4 : C.cr.length ≤ 17592186044416
theorem Cf.Ok.fr {w w1 : World} {C : Cf} (h : C.Ok w) (f : Fr (fun _ => False) w w1) : C.Ok w1 :=
  { h with secs := h.secs.fr f fun _ _ => id, sigs := h.sigs.fr f fun _ _ => id, crs := h.crs.fr f fun _ _ => id }

theorem Try.tcSec : Try.prog.cellsOf 60 = 3 := by kernel_rfl
theorem Try.tcSg : Try.prog.cellsOf 62 = 2 := by kernel_rfl
theorem Try.tcTm : Try.prog.cellsOf 53 = 4 := by kernel_rfl
theorem Try.tcCf : Try.prog.cellsOf 55 = 9 := by kernel_rfl
theorem Try.tcK1 : Try.prog.cellsOf 48 = 1 := by kernel_rfl
theorem Try.tcK2 : Try.prog.cellsOf 49 = 1 := by kernel_rfl
theorem Try.tcK3 : Try.prog.cellsOf 50 = 1 := by kernel_rfl
theorem Try.tcK5 : Try.prog.cellsOf 51 = 1 := by kernel_rfl
theorem Try.tbS : Try.prog.bytesOf 60 = 24 := by kernel_rfl
theorem Try.tbG : Try.prog.bytesOf 62 = 16 := by kernel_rfl
section
variable {H : Type} {enc : TypeId × Value → H} {w : World} {base : Nat}
set_option maxRecDepth 100000 in
theorem sec_of {n : Nat} {cs : List Value} {y : DataW H × List MemPlace} (h : DataW.trod enc Try.prog w 0 (fun _ => true) true n 60 cs = some y) : ∃ s : Sec, cs = [.int .i64 s.kind, .int .i64 s.oc, .int .i64 s.line] := by
  obtain ⟨xs, m, _, hx, hlen, hxl, hf⟩ := DataW.trod_struct Try.underlying60 h
  rw [Try.tcSec] at hlen
  match cs, hlen with
  | [c0, c1, c2], _ =>
    match xs, hxl with
    | [x0, x1, x2], _ =>
      have h0 : DataW.trod enc Try.prog w 0 (fun _ => true) true m 3 (([c0, c1, c2].drop 0).take (Try.prog.cellsOf 3)) = some x0 := hf 0 _ rfl
      have h1 : DataW.trod enc Try.prog w 0 (fun _ => true) true m 3 (([c0, c1, c2].drop 1).take (Try.prog.cellsOf 3)) = some x1 := hf 1 _ rfl
      have h2 : DataW.trod enc Try.prog w 0 (fun _ => true) true m 3 (([c0, c1, c2].drop 2).take (Try.prog.cellsOf 3)) = some x2 := hf 2 _ rfl
      rw [Try.cellInt] at h0 h1 h2
      obtain ⟨a, rfl⟩ := int_of (show DataW.trod enc Try.prog w 0 (fun _ => true) true m 3 [c0] = some x0 from h0)
      obtain ⟨b, rfl⟩ := int_of (show DataW.trod enc Try.prog w 0 (fun _ => true) true m 3 [c1] = some x1 from h1)
      obtain ⟨c, rfl⟩ := int_of (show DataW.trod enc Try.prog w 0 (fun _ => true) true m 3 [c2] = some x2 from h2)
      exact ⟨⟨a, b, c⟩, rfl⟩
set_option maxRecDepth 100000 in
theorem sg_of {n : Nat} {cs : List Value} {y : DataW H × List MemPlace} (h : DataW.trod enc Try.prog w 0 (fun _ => true) true n 62 cs = some y) : ∃ s : Sg, cs = [.int .i64 s.sec, .int .i64 s.fin] := by
  obtain ⟨xs, m, _, hx, hlen, hxl, hf⟩ := DataW.trod_struct Try.underlying62 h
  rw [Try.tcSg] at hlen
  match cs, hlen with
  | [c0, c1], _ =>
    match xs, hxl with
    | [x0, x1], _ =>
      have h0 : DataW.trod enc Try.prog w 0 (fun _ => true) true m 3 (([c0, c1].drop 0).take (Try.prog.cellsOf 3)) = some x0 := hf 0 _ rfl
      have h1 : DataW.trod enc Try.prog w 0 (fun _ => true) true m 3 (([c0, c1].drop 1).take (Try.prog.cellsOf 3)) = some x1 := hf 1 _ rfl
      rw [Try.cellInt] at h0 h1
      obtain ⟨a0, rfl⟩ := int_of (show DataW.trod enc Try.prog w 0 (fun _ => true) true m 3 [c0] = some x0 from h0)
      obtain ⟨a1, rfl⟩ := int_of (show DataW.trod enc Try.prog w 0 (fun _ => true) true m 3 [c1] = some x1 from h1)
      exact ⟨⟨a0, a1⟩, rfl⟩
set_option maxRecDepth 100000 in
theorem tm_of {n : Nat} {cs : List Value} {y : DataW H × List MemPlace} (h : DataW.trod enc Try.prog w 0 (fun _ => true) true n 53 cs = some y) : ∃ s : Tm, cs = [.int .i64 s.age, .int .i64 s.brake, .int .i64 s.hold, .int .i64 s.budget] := by
  obtain ⟨xs, m, _, hx, hlen, hxl, hf⟩ := DataW.trod_struct Try.underlying53 h
  rw [Try.tcTm] at hlen
  match cs, hlen with
  | [c0, c1, c2, c3], _ =>
    match xs, hxl with
    | [x0, x1, x2, x3], _ =>
      have h0 : DataW.trod enc Try.prog w 0 (fun _ => true) true m 3 (([c0, c1, c2, c3].drop 0).take (Try.prog.cellsOf 3)) = some x0 := hf 0 _ rfl
      have h1 : DataW.trod enc Try.prog w 0 (fun _ => true) true m 3 (([c0, c1, c2, c3].drop 1).take (Try.prog.cellsOf 3)) = some x1 := hf 1 _ rfl
      have h2 : DataW.trod enc Try.prog w 0 (fun _ => true) true m 3 (([c0, c1, c2, c3].drop 2).take (Try.prog.cellsOf 3)) = some x2 := hf 2 _ rfl
      have h3 : DataW.trod enc Try.prog w 0 (fun _ => true) true m 3 (([c0, c1, c2, c3].drop 3).take (Try.prog.cellsOf 3)) = some x3 := hf 3 _ rfl
      rw [Try.cellInt] at h0 h1 h2 h3
      obtain ⟨a0, rfl⟩ := int_of (show DataW.trod enc Try.prog w 0 (fun _ => true) true m 3 [c0] = some x0 from h0)
      obtain ⟨a1, rfl⟩ := int_of (show DataW.trod enc Try.prog w 0 (fun _ => true) true m 3 [c1] = some x1 from h1)
      obtain ⟨a2, rfl⟩ := int_of (show DataW.trod enc Try.prog w 0 (fun _ => true) true m 3 [c2] = some x2 from h2)
      obtain ⟨a3, rfl⟩ := int_of (show DataW.trod enc Try.prog w 0 (fun _ => true) true m 3 [c3] = some x3 from h3)
      exact ⟨⟨a0, a1, a2, a3⟩, rfl⟩
theorem exists_fun {α : Type} [Inhabited α] {m : Nat} {Q : Nat → α → Prop} (h : ∀ i, i < m → ∃ a, Q i a) : ∃ f : Nat → α, ∀ i, i < m → Q i (f i) := by
  classical
  refine ⟨fun i => if hi : i < m then (h i hi).choose else default, fun i hi => ?_⟩
  simp only [hi, dif_pos]
  exact (h i hi).choose_spec
/-- a flat list of cells, place by place -/
theorem flat_at {α : Type} (g : α → List Value) (size : Nat) (hg : ∀ a, (g a).length = size) : ∀ (l : List α) (j : Nat) (u : Value), (l.flatMap g)[j]? = some u → ∃ i k, j = i * size + k ∧ k < size ∧ ∃ h : i < l.length, (g l[i])[k]? = some u
  | [], j, u, h => by simp at h
  | a :: r, j, u, h => by
    rw [List.flatMap_cons] at h
    by_cases hj : j < size
    · rw [List.getElem?_append_left (by rw [hg]; exact hj)] at h
      exact ⟨0, j, by omega, hj, by simp, h⟩
    · rw [List.getElem?_append_right (by rw [hg]; omega), hg] at h
      obtain ⟨i, k, e, hk, hi, hu⟩ := flat_at g size hg r (j - size) u h
      exact ⟨i + 1, k, by rw [Nat.add_mul]; omega, hk, by simpa using hi, by simpa using hu⟩
set_option maxRecDepth 100000 in
/-- A slice of structs that came in: read as a flat row. -/
theorem open_flatQ {α : Type} [Inhabited α] {t e : TypeId} (Q : α → DataW H → Prop) {n : Nat} {v : Value} {y : DataW H × List MemPlace} (size : Nat) (g : α → List Value) (hg : ∀ a, (g a).length = size) (ht : Try.prog.underlying t = some (.slice e)) (hc : Try.prog.cellsOf e = size)
    (hof : ∀ (n : Nat) (cs : List Value) (y : DataW H × List MemPlace), DataW.trod enc Try.prog w 0 (fun _ => true) true n e cs = some y → ∃ a : α, cs = g a ∧ Q a y.1) (h : DataW.trod enc Try.prog w 0 (fun _ => true) true n t [v] = some y) :
    ∃ (A : Option Addr) (c : Nat) (l : List α), v = .slice A l.length c ∧ Rd w A (l.flatMap g) ∧ l.length ≤ c ∧ c ≤ maxLen ∧ ((y.1 = .nil ∧ l = []) ∨ ∃ es rest, y.1 = .slice es rest ∧ es.length = l.length ∧ ∀ i (hi : i < l.length), ∃ x, es[i]? = some x ∧ Q l[i] x) := by
  rcases open_slice ht h with ⟨hcs, hx⟩ | ⟨a, len, cap, m, n', D, Pl, hcs, hb, hl, hm, hmm, hx, hi⟩
  · simp only [List.cons.injEq, and_true] at hcs
    exact ⟨none, 0, [], hcs, fun h => by simp at h, Nat.zero_le _, Nat.zero_le _, .inl ⟨by rw [hx], rfl⟩⟩
  · simp only [List.cons.injEq, and_true] at hcs
    have hmc : m = cap := by simpa using hmm
    subst hmc
    rw [hc] at hi
    have hq : ∀ i, i < len → ∃ x : α, (∀ j, j < size → w.cell? ((a.add (i * size)).add j) = (g x)[j]?) ∧ Q x (D i) := by
      intro i hil
      obtain ⟨cs', hc', ht'⟩ := hi i (by omega)
      obtain ⟨x, rfl, hQ⟩ := hof _ _ _ ht'
      exact ⟨x, (World.cells?_some hc').2.2, hQ⟩
    obtain ⟨f, hfn⟩ := exists_fun hq
    refine ⟨some a, m, (List.range len).map f, by simp [hcs], rd_of fun j u hu => ?_, by simpa using hl, hm, .inr ⟨_, _, by rw [hx], by simp, fun i hi' => ?_⟩⟩
    · obtain ⟨i, k, rfl, hk, hil, hu⟩ := flat_at g size hg _ j u hu
      have hil' : i < len := by simpa using hil
      have := (hfn i hil').1 k hk
      rw [← Go.Deep.add_add, this]
      simpa using hu
    · have hil : i < len := by simpa using hi'
      refine ⟨D i, by simp [hil], ?_⟩
      simp only [List.getElem_map, List.getElem_range]
      exact (hfn i hil).2
set_option maxRecDepth 100000 in
theorem slice_of {t e : TypeId} {n : Nat} {v : Value} {y : DataW H × List MemPlace} (ht : Try.prog.underlying t = some (.slice e)) (h : DataW.trod enc Try.prog w 0 (fun _ => true) true n t [v] = some y) : ∃ A n c, v = .slice A n c := by
  rcases open_slice ht h with ⟨hcs, hx⟩ | ⟨a, len, cap, m, n', D, Pl, hcs, _⟩
  · exact ⟨_, _, _, by simpa using hcs⟩
  · exact ⟨_, _, _, by simpa using hcs⟩
structure CfIn (w : World) (C : Cf) (d : DataW H) : Prop where
  secs : Rd w C.A1 (cellsS C.l)
  sigs : Rd w C.A3 (cellsG C.sg)
  crs : Rd w C.A4 (C.cr.map (Value.int .i64))
  data : ∃ d1 d2 d3 d4 d5 d6, d = .agg [d1, d2, d3, d4, d5, d6] ∧ SL d1 C.l.length ∧ SL d3 C.sg.length ∧ SL d4 C.cr.length
theorem sl_of {α : Type} {d : DataW H} {l : List α} {Q : Nat → DataW H → Prop} (s : (d = .nil ∧ l = []) ∨ ∃ es rest, d = .slice es rest ∧ es.length = l.length ∧ ∀ i (_ : i < l.length), ∃ x, es[i]? = some x ∧ Q i x) : SL d l.length := by
  rcases s with ⟨a, b⟩ | ⟨es, rest, a, b, _⟩
  · exact .inl ⟨a, by rw [b]; rfl⟩
  · exact .inr ⟨es, rest, a, b⟩
set_option maxRecDepth 100000 in
set_option maxHeartbeats 1000000 in
theorem open_conf {v : Value} {d : DataW H} {ps : List MemPlace} (hv : Value.okWide Try.prog w .any base 55 v) (h : DataW.Trod enc Try.prog w 0 (fun _ => true) true 55 v d ps) : ∃ C : Cf, v = C.val ∧ CfIn w C d := by
  simp only [Value.okWide, Try.underlying55] at hv
  obtain ⟨cs, rfl, hcs, _⟩ := hv
  obtain ⟨fuel, hf0⟩ := h
  obtain ⟨l⟩ := cs
  obtain ⟨xs, m, _, hx, hlen, hxl, hf⟩ := DataW.trod_struct Try.underlying55 hf0
  rw [Try.tcCf] at hlen
  match l, hlen with
  | [e0, e1, e2, e3, e4, e5, e6, e7, e8], _ =>
    match xs, hxl with
    | [x0, x1, x2, x3, x4, x5], _ =>
      have h0 : DataW.trod enc Try.prog w 0 (fun _ => true) true m 48 (([e0, e1, e2, e3, e4, e5, e6, e7, e8].drop 0).take (Try.prog.cellsOf 48)) = some x0 := hf 0 _ rfl
      rw [Try.tcK1] at h0
      have h1 : DataW.trod enc Try.prog w 0 (fun _ => true) true m 49 (([e0, e1, e2, e3, e4, e5, e6, e7, e8].drop 1).take (Try.prog.cellsOf 49)) = some x1 := hf 1 _ rfl
      rw [Try.tcK2] at h1
      have h2 : DataW.trod enc Try.prog w 0 (fun _ => true) true m 50 (([e0, e1, e2, e3, e4, e5, e6, e7, e8].drop 2).take (Try.prog.cellsOf 50)) = some x2 := hf 2 _ rfl
      rw [Try.tcK3] at h2
      have h3 : DataW.trod enc Try.prog w 0 (fun _ => true) true m 22 (([e0, e1, e2, e3, e4, e5, e6, e7, e8].drop 3).take (Try.prog.cellsOf 22)) = some x3 := hf 3 _ rfl
      rw [Try.tcL] at h3
      have h4 : DataW.trod enc Try.prog w 0 (fun _ => true) true m 51 (([e0, e1, e2, e3, e4, e5, e6, e7, e8].drop 4).take (Try.prog.cellsOf 51)) = some x4 := hf 4 _ rfl
      rw [Try.tcK5] at h4
      have h5 : DataW.trod enc Try.prog w 0 (fun _ => true) true m 53 (([e0, e1, e2, e3, e4, e5, e6, e7, e8].drop 5).take (Try.prog.cellsOf 53)) = some x5 := hf 5 _ rfl
      rw [Try.tcTm] at h5
      obtain ⟨A1, k1, l1, rfl, r1, _, _, s1⟩ := open_flatQ (fun _ _ => True) 3 (fun s : Sec => [.int .i64 s.kind, .int .i64 s.oc, .int .i64 s.line]) (fun _ => rfl) Try.underlying48 Try.tcSec (fun _ _ _ h => by obtain ⟨a, e⟩ := sec_of h; exact ⟨a, e, trivial⟩) (show DataW.trod enc Try.prog w 0 (fun _ => true) true m 48 [e0] = some x0 from h0)
      obtain ⟨A2, n2, k2, rfl⟩ := slice_of Try.underlying49 (show DataW.trod enc Try.prog w 0 (fun _ => true) true m 49 [e1] = some x1 from h1)
      obtain ⟨A3, k3, l3, rfl, r3, _, _, s3⟩ := open_flatQ (fun _ _ => True) 2 (fun s : Sg => [.int .i64 s.sec, .int .i64 s.fin]) (fun _ => rfl) Try.underlying50 Try.tcSg (fun _ _ _ h => by obtain ⟨a, e⟩ := sg_of h; exact ⟨a, e, trivial⟩) (show DataW.trod enc Try.prog w 0 (fun _ => true) true m 50 [e2] = some x2 from h2)
      obtain ⟨⟨A4, l4, k4⟩, rfl, r4, s4⟩ := l3_of (show DataW.trod enc Try.prog w 0 (fun _ => true) true m 22 [e3] = some x3 from h3)
      obtain ⟨A5, n5, k5, rfl⟩ := slice_of Try.underlying51 (show DataW.trod enc Try.prog w 0 (fun _ => true) true m 51 [e4] = some x4 from h4)
      obtain ⟨t, et⟩ := tm_of (show DataW.trod enc Try.prog w 0 (fun _ => true) true m 53 [e5, e6, e7, e8] = some x5 from h5)
      injection et with t0 et
      injection et with t1 et
      injection et with t2 et
      injection et with t3 _
      subst t0 t1 t2 t3
      have hd : d = .agg [x0.1, x1.1, x2.1, x3.1, x4.1, x5.1] := congrArg Prod.fst hx
      exact ⟨⟨A1, k1, l1, A2, n2, k2, A3, k3, l3, A4, k4, l4, A5, n5, k5, t⟩, rfl, ⟨r1, r3, r4, x0.1, x1.1, x2.1, x3.1, x4.1, x5.1, hd, sl_of (Q := fun _ _ => True) s1, sl_of (Q := fun _ _ => True) s3, s4⟩⟩
end
section
variable {H : Type}
theorem sl_size {ts : List TypeId} {ds : List (DataW H)} (hsz : (DataW.weightsEach Try.prog ts ds).all (· ≤ reachBytes) = true) {d : DataW H} {n b : Nat} {t e : TypeId} (s : SL d n) (ht : Try.prog.underlying t = some (.slice e)) (hb : Try.prog.bytesOf e = b)
    (hin : ∀ k, k ∈ d.weights Try.prog t → k ∈ DataW.weightsEach Try.prog ts ds) : n * b ≤ 140737488351232 := by
  rcases sl_weight s ht hb with h | ⟨k, hk, hle⟩
  · rw [h]; omega
  · have := List.all_eq_true.1 hsz _ (hin k hk)
    simp only [decide_eq_true_eq] at this
    unfold reachBytes at this
    omega
theorem conf_ok {w : World} {C : Cf} {d : DataW H} {ts : List TypeId} {ds : List (DataW H)} {j : Nat} (h : CfIn w C d) (hsz : (DataW.weightsEach Try.prog ts ds).all (· ≤ reachBytes) = true) (ht : ts[j]? = some 55) (hd : ds[j]? = some d) : C.Ok w := by
  obtain ⟨d1, d2, d3, d4, d5, d6, rfl, s1, s3, s4⟩ := h.data
  have f : ∀ (i : Nat) (di : DataW H) (t : TypeId), [d1, d2, d3, d4, d5, d6][i]? = some di → [48, 49, 50, 22, 51, 53][i]? = some t → ∀ k, k ∈ di.weights Try.prog t → k ∈ DataW.weightsEach Try.prog ts ds := fun i di t h1 h2 k hk => by
    refine DataW.weights_mem_each ht hd _ ?_
    simp only [DataW.weights, Try.underlying55]
    exact DataW.weights_mem_each h2 h1 _ hk
  have q1 := sl_size hsz s1 Try.underlying48 Try.tbS (f 0 _ _ rfl rfl)
  have q3 := sl_size hsz s3 Try.underlying50 Try.tbG (f 2 _ _ rfl rfl)
  have q4 := sl_size hsz s4 Try.underlying22 Try.tby (f 3 _ _ rfl rfl)
  exact ⟨h.secs, h.sigs, h.crs, by omega, by omega, by omega⟩
end
end Go.Proofs.Ytmohefkingnknaa.Te

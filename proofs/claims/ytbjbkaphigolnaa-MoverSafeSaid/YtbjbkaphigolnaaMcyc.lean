/- How a script of cycles is read: its cells, its lists, its size. -/
import Derived.Test.YtbjbkaphigolnaaMopen
namespace Go.Proofs.Ytbjbkaphigolnaa.Mv
open Go.ChangeShapes Go.WideShapes Go.ChangeAt Go.RowKit Go.Deep Go.Joins

theorem cellsCycle : Try.prog.cellsOf 55 = 4 := by kernel_rfl
theorem cellsBool : Try.prog.cellsOf 4 = 1 := by kernel_rfl
theorem cellsInts : Try.prog.cellsOf 35 = 1 := by kernel_rfl
theorem bytes_cycle : Try.prog.bytesOf 55 = 40 := by kernel_rfl

/-- a cycle of the script, as it lies -/
structure Cy where
  cmd : Int
  A : Option Addr
  c : Nat
  l : List Int
  st : Bool
  lk : Bool
instance : Inhabited Cy := ⟨⟨0, none, 0, [], false, false⟩⟩
def Cy.cells (p : Cy) : List Value := [.int .i64 p.cmd, .slice p.A p.l.length p.c, .bool p.st, .bool p.lk]
def Cy.ok (w : World) (p : Cy) : Prop := Rd w p.A (p.l.map (Value.int .i64)) ∧ p.l.length ≤ p.c ∧ p.c ≤ maxLen
/-- a script lies at A -/
def Cycs (w : World) (A : Option Addr) (ps : List Cy) : Prop :=
  (0 < ps.length → ∃ g o, A = some ⟨g, o, none⟩ ∧ g < w.heap.size ∧ ∀ j (hj : j < ps.length), w.cell? ⟨g, o + j * 4, none⟩ = some (.int .i64 ps[j].cmd) ∧ w.cell? ⟨g, o + j * 4 + 1, none⟩ = some (.slice ps[j].A ps[j].l.length ps[j].c) ∧ w.cell? ⟨g, o + j * 4 + 2, none⟩ = some (.bool ps[j].st) ∧ w.cell? ⟨g, o + j * 4 + 3, none⟩ = some (.bool ps[j].lk)) ∧ ∀ p ∈ ps, p.ok w
theorem rd_keep {w w1 : World} {A : Option Addr} {xs : List Value} (h : Rd w A xs) (f : Fr (fun k => w.heap.size ≤ k) w w1) : Rd w1 A xs := fun h0 => by
  obtain ⟨b, o, rfl, hb, hc⟩ := h h0
  exact ⟨b, o, rfl, Nat.lt_of_lt_of_le hb f.size, fun j u hu => (f.cell (p := ⟨b, o + j, none⟩) hb (by show ¬ w.heap.size ≤ b; omega)).trans (hc j u hu)⟩
theorem Cycs.fr {w w1 : World} {A : Option Addr} {l : List Cy} (h : Cycs w A l) (f : Fr (fun k => w.heap.size ≤ k) w w1) : Cycs w1 A l := by
  refine ⟨fun h0 => ?_, fun p hp => ⟨rd_keep (h.2 p hp).1 f, (h.2 p hp).2⟩⟩
  · obtain ⟨g, o, rfl, hg, hc⟩ := h.1 h0
    have hn : ¬ w.heap.size ≤ g := by omega
    refine ⟨g, o, rfl, Nat.lt_of_lt_of_le hg f.size, fun j hj => ?_⟩
    obtain ⟨c0, c1, c2, c3⟩ := hc j hj
    exact ⟨(f.cell (p := ⟨g, o + j * 4, none⟩) hg hn).trans c0, (f.cell (p := ⟨g, o + j * 4 + 1, none⟩) hg hn).trans c1, (f.cell (p := ⟨g, o + j * 4 + 2, none⟩) hg hn).trans c2, (f.cell (p := ⟨g, o + j * 4 + 3, none⟩) hg hn).trans c3⟩

section
variable {H : Type} {enc : TypeId × Value → H} {w : World} {base : Nat}
set_option maxRecDepth 100000 in
theorem nums_of {n : Nat} {v : Value} {y : DataW H × List MemPlace} (h : DataW.trod enc Try.prog w 0 (fun _ => true) true n 35 [v] = some y) :
    ∃ (A : Option Addr) (c : Nat) (l : List Int), v = .slice A l.length c ∧ Rd w A (l.map (Value.int .i64)) ∧ l.length ≤ c ∧ c ≤ maxLen := by
  rcases open_ints Try.underlying35 Try.underlying3 Try.cellInt h with ⟨hcs, hd⟩ | ⟨a, len, cap, zs, hcs, _, hl, hm, hz, hd, hcell, _⟩
  · exact ⟨none, 0, [], by simpa using hcs, (fun h => by simp at h), Nat.le_refl _, Nat.zero_le _⟩
  · have hzc : zs.length = cap := by simpa using hz
    have hlen' : (zs.take len).length = len := by rw [List.length_take]; omega
    refine ⟨some a, cap, zs.take len, by rw [hlen']; simpa using hcs, rd_of fun i u hu => ?_, by rw [hlen']; exact hl, hm⟩
    have hi : i < len := by
      have := (List.getElem?_eq_some_iff.1 hu).1
      rw [List.length_map, hlen'] at this
      exact this
    rw [hcell i (by omega)]
    rw [List.getElem?_map, List.getElem?_take, if_pos hi, List.getElem?_eq_getElem (by omega)] at hu
    simp only [Option.map_some, Option.some.injEq] at hu
    rw [← hu, List.getD_eq_getElem?_getD, List.getElem?_eq_getElem (by omega)]
    rfl
set_option maxRecDepth 100000 in
theorem cycle_of {n : Nat} {cs : List Value} {y : DataW H × List MemPlace} (h : DataW.trod enc Try.prog w 0 (fun _ => true) true n 55 cs = some y) : ∃ p : Cy, cs = p.cells ∧ p.ok w := by
  obtain ⟨xs, m, _, hx, hlen, hxl, hf⟩ := DataW.trod_struct Try.underlying55 h
  rw [cellsCycle] at hlen
  match cs, hlen with
  | [c0, c1, c2, c3], _ =>
    match xs, hxl with
    | [x0, x1, x2, x3], _ =>
      have h0 : DataW.trod enc Try.prog w 0 (fun _ => true) true m 3 (([c0, c1, c2, c3].drop 0).take (Try.prog.cellsOf 3)) = some x0 := hf 0 _ rfl
      have h1 : DataW.trod enc Try.prog w 0 (fun _ => true) true m 35 (([c0, c1, c2, c3].drop 1).take (Try.prog.cellsOf 35)) = some x1 := hf 1 _ rfl
      have h2 : DataW.trod enc Try.prog w 0 (fun _ => true) true m 4 (([c0, c1, c2, c3].drop 2).take (Try.prog.cellsOf 4)) = some x2 := hf 2 _ rfl
      have h3 : DataW.trod enc Try.prog w 0 (fun _ => true) true m 4 (([c0, c1, c2, c3].drop 3).take (Try.prog.cellsOf 4)) = some x3 := hf 3 _ rfl
      rw [Try.cellInt] at h0
      rw [cellsInts] at h1
      rw [cellsBool] at h2 h3
      obtain ⟨a, rfl, _⟩ := int_of (show DataW.trod enc Try.prog w 0 (fun _ => true) true m 3 [c0] = some x0 from h0)
      obtain ⟨A, k, l, rfl, r, i, j⟩ := nums_of (show DataW.trod enc Try.prog w 0 (fun _ => true) true m 35 [c1] = some x1 from h1)
      obtain ⟨b, e2, _⟩ := DataW.trod_bool Try.underlying4 (show DataW.trod enc Try.prog w 0 (fun _ => true) true m 4 [c2] = some x2 from h2)
      obtain ⟨d, e3, _⟩ := DataW.trod_bool Try.underlying4 (show DataW.trod enc Try.prog w 0 (fun _ => true) true m 4 [c3] = some x3 from h3)
      injection e2 with e2 _
      injection e3 with e3 _
      subst e2 e3
      exact ⟨⟨a, A, k, l, b, d⟩, rfl, r, i, j⟩

theorem exists_fun {α : Type} [Inhabited α] {m : Nat} {Q : Nat → α → Prop} (h : ∀ i, i < m → ∃ a, Q i a) : ∃ f : Nat → α, ∀ i, i < m → Q i (f i) := by
  classical
  refine ⟨fun i => if hi : i < m then (h i hi).choose else default, fun i hi => ?_⟩
  simp only [hi, dif_pos]
  exact (h i hi).choose_spec
set_option maxRecDepth 100000 in
/-- A script that came in: as a value, as cells. -/
theorem open_cycles {v : Value} {d : DataW H} {ps : List MemPlace} (hv : Value.okWide Try.prog w .any base 49 v) (h : DataW.Trod enc Try.prog w 0 (fun _ => true) true 49 v d ps) :
    ∃ (A : Option Addr) (c : Nat) (l : List Cy), v = .slice A l.length c ∧ Cycs w A l ∧ l.length ≤ c ∧ c ≤ maxLen ∧ ((d = .nil ∧ l = []) ∨ ∃ es rest, d = .slice es rest ∧ es.length = l.length) := by
  obtain ⟨a0, len0, cap0, rfl⟩ := okWide_slice Try.underlying49 hv
  obtain ⟨fuel, hf⟩ := h
  rcases open_slice Try.underlying49 hf with ⟨hcs, hx⟩ | ⟨a, len, cap, m, n, D, Pl, hcs, hb, hl, hm, hmm, hx, hi⟩
  · simp only [Value.cells, List.cons.injEq, Value.slice.injEq, and_true] at hcs
    obtain ⟨rfl, rfl, rfl⟩ := hcs
    simp only [Prod.mk.injEq] at hx
    exact ⟨none, 0, [], rfl, ⟨fun h => by simp at h, by simp⟩, Nat.le_refl _, Nat.zero_le _, .inl ⟨hx.1, rfl⟩⟩
  · simp only [Value.cells, List.cons.injEq, Value.slice.injEq, and_true] at hcs
    obtain ⟨rfl, rfl, rfl⟩ := hcs
    have hmc : m = cap0 := by simpa using hmm
    subst hmc
    rw [cellsCycle] at hi
    have hq : ∀ i, i < len0 → ∃ p : Cy, (∀ j, j < 4 → w.cell? ((a.add (i * 4)).add j) = p.cells[j]?) ∧ p.ok w := by
      intro i hil
      obtain ⟨cs', hc, ht⟩ := hi i (by omega)
      obtain ⟨p, rfl, hd⟩ := cycle_of ht
      exact ⟨p, (World.cells?_some hc).2.2, hd⟩
    obtain ⟨f, hfn⟩ := exists_fun hq
    simp only [Prod.mk.injEq] at hx
    refine ⟨some a, m, (List.range len0).map f, by simp, ⟨?_, ?_⟩, by simp; omega, hm, .inr ⟨_, _, hx.1, by simp⟩⟩
    · intro hpos
      have hp0 : 0 < len0 := by simpa using hpos
      have h00 := (hfn 0 hp0).1 0 (by decide)
      have e0 : (a.add (0 * 4)).add 0 = a := by simp [Addr.add]
      rw [e0] at h00
      have hspot := World.cell?_spot h00
      obtain ⟨g, o, spot⟩ := a
      simp only at hspot
      subst hspot
      refine ⟨g, o, rfl, World.block_lt_of_cell? w ⟨g, o, none⟩ h00, fun j hj => ?_⟩
      have hj' : j < len0 := by simpa using hj
      have hc := (hfn j hj').1
      have c0 := hc 0 (by decide)
      have c1 := hc 1 (by decide)
      have c2 := hc 2 (by decide)
      have c3 := hc 3 (by decide)
      simp only [add_plain] at c0 c1 c2 c3
      simp only [List.getElem_map, List.getElem_range]
      exact ⟨c0, c1, c2, c3⟩
    · intro p hp
      obtain ⟨i, hi', rfl⟩ := List.mem_map.1 hp
      exact (hfn i (by simpa using hi')).2
end
end Go.Proofs.Ytbjbkaphigolnaa.Mv

/- How an argument that is a row of lists of texts is read: its cells, and how many texts there are where all is of bulk at most 1048576. -/
import Derived.Test.YtgnbaknmibncmaaInts
import Derived.Test.YtgnbaknmibncmaaWide
import Derived.Deep.Slices
namespace Go.Proofs.Ytgnbaknmibncmaa
open Go.ChangeShapes Go.WideShapes Go.ChangeAt Go.RowKit Go.Deep

theorem Try.cellsRows : Try.prog.cellsOf 44 = 1 := by kernel_rfl
theorem Try.cellsText : Try.prog.cellsOf 9 = 1 := by kernel_rfl

/-- the cells of a list of texts -/
def cellsS (l : List ByteArray) : List Value := l.map Value.string
theorem cellsS_one (l : List ByteArray) : ∀ u ∈ cellsS l, u.oneCell' = true := by
  intro u hu
  obtain ⟨x, _, rfl⟩ := List.mem_map.1 hu
  rfl
theorem cellsS_length (l : List ByteArray) : (cellsS l).length = l.length := by simp [cellsS]
theorem cellsS_append (l m : List ByteArray) : cellsS (l ++ m) = cellsS l ++ cellsS m := by unfold cellsS; rw [List.map_append]
theorem cellsS_split (l : List ByteArray) (f : Nat) : cellsS l = cellsS (l.take f) ++ cellsS (l.drop f) := by
  rw [← cellsS_append, List.take_append_drop]

/-- a list of the row, as it lies -/
structure Bat where
  A : Option Addr
  c : Nat
  l : List ByteArray
instance : Inhabited Bat := ⟨⟨none, 0, []⟩⟩
def Bat.ok (w : World) (p : Bat) : Prop := Rd w p.A (cellsS p.l) ∧ p.l.length ≤ p.c ∧ p.c ≤ maxLen
def Bat.data {H : Type} (p : Bat) (d : DataW H) : Prop := (d = .nil ∧ p.l = []) ∨ ∃ rest, d = .slice (strs p.l) rest
/-- A row of lists that lies at A. -/
def Bats (w : World) (A : Option Addr) (ps : List Bat) : Prop :=
  (0 < ps.length → ∃ g o, A = some ⟨g, o, none⟩ ∧ g < w.heap.size ∧ ∀ j (hj : j < ps.length), w.cell? ⟨g, o + j, none⟩ = some (.slice ps[j].A ps[j].l.length ps[j].c)) ∧ ∀ p ∈ ps, p.ok w

section
variable {H : Type} {enc : TypeId × Value → H} {w : World} {base : Nat}
theorem bat_of {n : Nat} {c0 : Value} {y : DataW H × List MemPlace} (h : DataW.trod enc Try.prog w 0 (fun _ => true) true n 44 [c0] = some y) :
    ∃ p : Bat, c0 = .slice p.A p.l.length p.c ∧ p.data y.1 ∧ p.ok w := by
  rcases open_strings Try.underlying44 Try.underlying9 Try.cellsText h with ⟨hcs, hd⟩ | ⟨a, len, cap, zs, hcs, _, hl, hm, hz, hd, hcell, _⟩
  · refine ⟨⟨none, 0, []⟩, by simp_all, .inl ⟨?_, rfl⟩, fun h => by simp [cellsS] at h, Nat.le_refl _, Nat.zero_le _⟩
    rw [hd]
  · have hzc : zs.length = cap := by simpa using hz
    have hlen' : (zs.take len).length = len := by rw [List.length_take]; omega
    refine ⟨⟨some a, cap, zs.take len⟩, by rw [hlen']; simp_all, .inr ⟨strs (zs.drop len), ?_⟩, rd_of fun i u hu => ?_, by rw [hlen']; exact hl, hm⟩
    · rw [hd]
    · have hi : i < len := by
        have := (List.getElem?_eq_some_iff.1 hu).1
        rw [cellsS_length, hlen'] at this
        exact this
      rw [hcell i (by omega)]
      unfold cellsS at hu
      rw [List.getElem?_map, List.getElem?_take, if_pos hi, List.getElem?_eq_getElem (by omega)] at hu
      simp only [Option.map_some, Option.some.injEq] at hu
      rw [← hu, List.getD_eq_getElem?_getD, List.getElem?_eq_getElem (by omega)]
      rfl
theorem exists_fun2 {α : Type} [Inhabited α] {m : Nat} {Q : Nat → α → Prop} (h : ∀ i, i < m → ∃ a, Q i a) : ∃ f : Nat → α, ∀ i, i < m → Q i (f i) := by
  classical
  refine ⟨fun i => if hi : i < m then (h i hi).choose else default, fun i hi => ?_⟩
  simp only [hi, dif_pos]
  exact (h i hi).choose_spec

theorem open_bats {v : Value} {d : DataW H} {ps : List MemPlace} (hv : Value.okWide Try.prog w .any base 41 v) (h : DataW.Trod enc Try.prog w 0 (fun _ => true) true 41 v d ps) :
    ∃ (A : Option Addr) (c : Nat) (l : List Bat), v = .slice A l.length c ∧ Bats w A l ∧
      ((d = .nil ∧ l = []) ∨ ∃ es rest, d = .slice es rest ∧ es.length = l.length ∧ ∀ i (hi : i < l.length), ∃ x, es[i]? = some x ∧ l[i].data x) := by
  obtain ⟨a0, len0, cap0, rfl⟩ := okWide_slice Try.underlying41 hv
  obtain ⟨fuel, hf⟩ := h
  rcases open_slice Try.underlying41 hf with ⟨hcs, hx⟩ | ⟨a, len, cap, m, n, D, Pl, hcs, hb, hl, hm, hmm, hx, hi⟩
  · simp only [Value.cells, List.cons.injEq, Value.slice.injEq, and_true] at hcs
    obtain ⟨rfl, rfl, rfl⟩ := hcs
    simp only [Prod.mk.injEq] at hx
    exact ⟨none, 0, [], rfl, ⟨fun h => by simp at h, by simp⟩, .inl ⟨hx.1, rfl⟩⟩
  · simp only [Value.cells, List.cons.injEq, Value.slice.injEq, and_true] at hcs
    obtain ⟨rfl, rfl, rfl⟩ := hcs
    have hmc : m = cap0 := by simpa using hmm
    subst hmc
    rw [Try.cellsRows] at hi
    have hq : ∀ i, i < len0 → ∃ p : Bat, w.cell? (a.add i) = some (.slice p.A p.l.length p.c) ∧ p.data (D i) ∧ p.ok w := by
      intro i hil
      obtain ⟨cs', hc, ht⟩ := hi i (by omega)
      obtain ⟨_, hlen, hat⟩ := World.cells?_some hc
      match cs', hlen with
      | [c0], _ =>
        obtain ⟨p, rfl, hd, hs⟩ := bat_of ht
        have h0 := hat 0 (by decide)
        have e0 : (a.add (i * 1)).add 0 = a.add i := by rw [Nat.mul_one]; simp [Addr.add]
        rw [e0] at h0
        exact ⟨p, by simpa using h0, hd, hs⟩
    obtain ⟨f, hfn⟩ := exists_fun2 hq
    simp only [Prod.mk.injEq] at hx
    refine ⟨some a, m, (List.range len0).map f, by simp, ⟨?_, ?_⟩, .inr ⟨_, _, hx.1, by simp, fun i hi' => ?_⟩⟩
    · intro hpos
      have hp0 : 0 < len0 := by simpa using hpos
      have h00 := (hfn 0 hp0).1
      have e0 : a.add 0 = a := by simp [Addr.add]
      rw [e0] at h00
      have hspot := World.cell?_spot h00
      obtain ⟨g, o, spot⟩ := a
      simp only at hspot
      subst hspot
      refine ⟨g, o, rfl, World.block_lt_of_cell? w ⟨g, o, none⟩ h00, fun j hj => ?_⟩
      have hj' : j < len0 := by simpa using hj
      have c0 := (hfn j hj').1
      simp only [add_plain] at c0
      simp only [List.getElem_map, List.getElem_range]
      exact c0
    · intro t ht
      obtain ⟨i, hi', rfl⟩ := List.mem_map.1 ht
      exact (hfn i (by simpa using hi')).2.2
    · have hil : i < len0 := by simpa using hi'
      refine ⟨D i, by simp [hil], ?_⟩
      simp only [List.getElem_map, List.getElem_range]
      exact (hfn i hil).2.1
end

/-- how many texts there are -/
def tot : List Bat → Nat
  | [] => 0
  | p :: r => p.l.length + tot r
theorem tot_take : ∀ {l : List Bat} {j : Nat} (h : j < l.length), tot (l.take (j + 1)) = tot (l.take j) + l[j].l.length
  | p :: r, 0, _ => by simp [tot]
  | p :: r, j + 1, h => by
    have := tot_take (l := r) (j := j) (by simpa using h)
    simp only [List.take_succ_cons, tot, List.getElem_cons_succ]
    omega
theorem tot_le : ∀ (l : List Bat) (j : Nat), tot (l.take j) ≤ tot l
  | [], j => by simp [tot]
  | p :: r, 0 => by simp [tot]
  | p :: r, j + 1 => by
    have := tot_le r j
    simp only [List.take_succ_cons, tot]
    omega
theorem bulk_strs {H : Type} : ∀ l : List ByteArray, l.length ≤ Rows.uptoBulkAll (H := H) (strs l)
  | [] => by simp [strs, Rows.uptoBulkAll]
  | x :: l => by
    have ih := bulk_strs (H := H) l
    have hs : Rows.uptoBulkAll (H := H) (strs (x :: l)) = Rows.uptoBulk (H := H) (.lit (.string x.data.toList)) + Rows.uptoBulkAll (strs l) := rfl
    have hb : 1 ≤ Rows.uptoBulk (H := H) (.lit (.string x.data.toList)) := by simp [Rows.uptoBulk]
    rw [hs, List.length_cons]
    omega
theorem bulk_bats {H : Type} : ∀ (l : List Bat) (es : List (DataW H)), es.length = l.length → (∀ i (hi : i < l.length), ∃ x, es[i]? = some x ∧ l[i].data x) → tot l ≤ Rows.uptoBulkAll es ∧ l.length ≤ Rows.uptoBulkAll es
  | [], [], _, _ => by simp [tot]
  | p :: r, e :: es, hl, h => by
    obtain ⟨i1, i2⟩ := bulk_bats r es (by simpa using hl) fun i hi => h (i + 1) (by simpa using hi)
    obtain ⟨x, hx, hp⟩ := h 0 (by simp)
    simp only [List.getElem?_cons_zero, Option.some.injEq] at hx
    subst hx
    have h1 : p.l.length ≤ Rows.uptoBulk e ∧ 1 ≤ Rows.uptoBulk e := by
      rcases hp with ⟨rfl, h0⟩ | ⟨rest, rfl⟩
      · have h0' : p.l = [] := h0
        rw [h0']
        simp [Rows.uptoBulk]
      · have := bulk_strs (H := H) p.l
        simp only [Rows.uptoBulk, List.getElem_cons_zero]
        omega
    simp only [tot, Rows.uptoBulkAll, List.length_cons]
    omega
theorem small_bats {H : Type} {d0 d1 d2 : DataW H} {l : List Bat} (hk : Rows.uptoSmall H [d0, d1, d2] = true) (hd : (d1 = .nil ∧ l = []) ∨ ∃ es rest, d1 = .slice es rest ∧ es.length = l.length ∧ ∀ i (hi : i < l.length), ∃ x, es[i]? = some x ∧ l[i].data x) : tot l ≤ 1048576 ∧ l.length ≤ 1048576 := by
  have h : Rows.uptoBulkAll [d0, d1, d2] ≤ 1048576 := of_decide_eq_true hk
  rcases hd with ⟨_, rfl⟩ | ⟨es, rest, rfl, hl, hx⟩
  · simp [tot]
  · obtain ⟨h1, h2⟩ := bulk_bats l es hl hx
    simp only [Rows.uptoBulkAll, Rows.uptoBulk] at h
    omega
end Go.Proofs.Ytgnbaknmibncmaa

/- Contracts and plain mathematics of earlier stages: Stat, Cmem, Openc, Sizec, Bulk. -/
import Derived.Test.YtbjbkaphigolnaaKt
import Derived.Test.YtbjbkaphigolnaaKa
import Derived.Deep.Slices
import Derived.Lib.SmallJoins
namespace Go.Proofs.Ytbjbkaphigolnaa

structure Nd where
  sec : Int
  pos : Int
deriving DecidableEq
structure Sg where
  sec : Int
  fin : Int
deriving DecidableEq
instance : Inhabited Nd := ⟨⟨0, 0⟩⟩
instance : Inhabited Sg := ⟨⟨0, 0⟩⟩
structure Rt where
  entry : Int
  exit : Int
  path : List St
  flank : List Nd
  over : List Int
  shunt : Bool
instance : Inhabited Rt := ⟨⟨0, 0, [], [], [], false⟩⟩
structure Tm where
  age : Int
  brake : Int
  hold : Int
  budget : Int
structure Cf where
  secs : List Sec
  jos : List Jo
  sigs : List Sg
  crs : List Int
  rts : List Rt
  tm : Tm

end Go.Proofs.Ytbjbkaphigolnaa

namespace Go.Proofs.Ytbjbkaphigolnaa
open Go.RowKit

/-! ### Slices of small structs -/
def cellsN (l : List Nd) : List Value := l.flatMap fun s => [.int .i64 s.sec, .int .i64 s.pos]
def cellsG (l : List Sg) : List Value := l.flatMap fun s => [.int .i64 s.sec, .int .i64 s.fin]
theorem cellsN_length (l : List Nd) : (cellsN l).length = l.length * 2 := by
  induction l with
  | nil => rfl
  | cons v r ih =>
    have e : cellsN (v :: r) = [.int .i64 v.sec, .int .i64 v.pos] ++ cellsN r := rfl
    rw [e, List.length_append, ih, List.length_cons]
    simp
    omega
theorem cellsG_length (l : List Sg) : (cellsG l).length = l.length * 2 := by
  induction l with
  | nil => rfl
  | cons v r ih =>
    have e : cellsG (v :: r) = [.int .i64 v.sec, .int .i64 v.fin] ++ cellsG r := rfl
    rw [e, List.length_append, ih, List.length_cons]
    simp
    omega
theorem cellsN_snoc (l : List Nd) (v : Nd) : cellsN (l ++ [v]) = cellsN l ++ [.int .i64 v.sec, .int .i64 v.pos] := by
  unfold cellsN
  rw [List.flatMap_append]
  rfl
theorem cellsG_snoc (l : List Sg) (v : Sg) : cellsG (l ++ [v]) = cellsG l ++ [.int .i64 v.sec, .int .i64 v.fin] := by
  unfold cellsG
  rw [List.flatMap_append]
  rfl
theorem cellsN_at {l : List Nd} {j : Nat} (h : j < l.length) : (cellsN l)[j * 2]? = some (.int .i64 l[j].sec) ∧ (cellsN l)[j * 2 + 1]? = some (.int .i64 l[j].pos) := by
  induction l generalizing j with
  | nil => simp at h
  | cons v r ih =>
    have e : cellsN (v :: r) = [.int .i64 v.sec, .int .i64 v.pos] ++ cellsN r := rfl
    rcases j with _ | j
    · rw [e]; simp
    · have := ih (j := j) (by simpa using h)
      rw [e, show (j + 1) * 2 = 2 + j * 2 by omega, show 2 + j * 2 + 1 = 2 + (j * 2 + 1) by omega]
      rw [List.getElem?_append_right (by simp), List.getElem?_append_right (by simp)]
      simpa using this
theorem cellsG_at {l : List Sg} {j : Nat} (h : j < l.length) : (cellsG l)[j * 2]? = some (.int .i64 l[j].sec) ∧ (cellsG l)[j * 2 + 1]? = some (.int .i64 l[j].fin) := by
  induction l generalizing j with
  | nil => simp at h
  | cons v r ih =>
    have e : cellsG (v :: r) = [.int .i64 v.sec, .int .i64 v.fin] ++ cellsG r := rfl
    rcases j with _ | j
    · rw [e]; simp
    · have := ih (j := j) (by simpa using h)
      rw [e, show (j + 1) * 2 = 2 + j * 2 by omega, show 2 + j * 2 + 1 = 2 + (j * 2 + 1) by omega]
      rw [List.getElem?_append_right (by simp), List.getElem?_append_right (by simp)]
      simpa using this
theorem rd_nd {w : World} {A : Option Addr} {l : List Nd} (h : Rd w A (cellsN l)) {j : Nat} (hj : j < l.length) : ∃ g o, A = some ⟨g, o, none⟩ ∧ w.cell? ⟨g, o + j * 2, none⟩ = some (.int .i64 l[j].sec) ∧ w.cell? ⟨g, o + j * 2 + 1, none⟩ = some (.int .i64 l[j].pos) := by
  obtain ⟨h0, h1⟩ := cellsN_at hj
  obtain ⟨g, o, rfl, _, hc⟩ := h (by have := (List.getElem?_eq_some_iff.1 h0).1; omega)
  exact ⟨g, o, rfl, hc _ _ h0, hc _ _ h1⟩
theorem rd_sg {w : World} {A : Option Addr} {l : List Sg} (h : Rd w A (cellsG l)) {j : Nat} (hj : j < l.length) : ∃ g o, A = some ⟨g, o, none⟩ ∧ w.cell? ⟨g, o + j * 2, none⟩ = some (.int .i64 l[j].sec) ∧ w.cell? ⟨g, o + j * 2 + 1, none⟩ = some (.int .i64 l[j].fin) := by
  obtain ⟨h0, h1⟩ := cellsG_at hj
  obtain ⟨g, o, rfl, _, hc⟩ := h (by have := (List.getElem?_eq_some_iff.1 h0).1; omega)
  exact ⟨g, o, rfl, hc _ _ h0, hc _ _ h1⟩
theorem rd_int {w : World} {A : Option Addr} {l : List Int} (h : Rd w A (l.map (Value.int .i64))) {j : Nat} (hj : j < l.length) : ∃ g o, A = some ⟨g, o, none⟩ ∧ w.cell? ⟨g, o + j, none⟩ = some (.int .i64 l[j]) := by
  have h0 : (l.map (Value.int .i64))[j]? = some (.int .i64 l[j]) := by rw [List.getElem?_map, List.getElem?_eq_getElem hj]; rfl
  obtain ⟨g, o, rfl, _, hc⟩ := h (by have := (List.getElem?_eq_some_iff.1 h0).1; omega)
  exact ⟨g, o, rfl, hc _ _ h0⟩

/-! ### Routes -/
structure Ro where
  entry : Int
  exit : Int
  a1 : Option Addr
  c1 : Nat
  path : List St
  a2 : Option Addr
  c2 : Nat
  flank : List Nd
  a3 : Option Addr
  c3 : Nat
  over : List Int
  shunt : Bool
instance : Inhabited Ro := ⟨⟨0, 0, none, 0, [], none, 0, [], none, 0, [], false⟩⟩
def Ro.rt (r : Ro) : Rt := ⟨r.entry, r.exit, r.path, r.flank, r.over, r.shunt⟩
def Ro.cells (r : Ro) : List Value := [.int .i64 r.entry, .int .i64 r.exit, .slice r.a1 r.path.length r.c1, .slice r.a2 r.flank.length r.c2, .slice r.a3 r.over.length r.c3, .bool r.shunt]
def Ro.val (r : Ro) : Value := .agg #[.int .i64 r.entry, .int .i64 r.exit, .slice r.a1 r.path.length r.c1, .slice r.a2 r.flank.length r.c2, .slice r.a3 r.over.length r.c3, .bool r.shunt]
def cellsR (l : List Ro) : List Value := l.flatMap Ro.cells
structure Ro.Ok (w : World) (r : Ro) : Prop where
  path : Rd w r.a1 (cellsT r.path)
  flank : Rd w r.a2 (cellsN r.flank)
  over : Rd w r.a3 (r.over.map (Value.int .i64))
  l1 : r.path.length ≤ r.c1
  l2 : r.flank.length ≤ r.c2
  l3 : r.over.length ≤ r.c3
  b1 : r.path.length * 24 ≤ 140737488351232
  b2 : r.flank.length * 16 ≤ 140737488351232
  b3 : r.over.length * 8 ≤ 140737488351232
  k1 : r.c1 ≤ 9223372036854775807
  k2 : r.c2 ≤ 9223372036854775807
  k3 : r.c3 ≤ 9223372036854775807
theorem Ro.Ok.fr {w w1 : World} {r : Ro} (h : r.Ok w) (f : Fr (fun _ => False) w w1) : r.Ok w1 :=
  { h with path := h.path.fr f fun _ _ => id, flank := h.flank.fr f fun _ _ => id, over := h.over.fr f fun _ _ => id }
theorem Ro.Ok.drewN {w : World} {r : Ro} (h : r.Ok w) (n : Nat) : r.Ok (w.drewN n) := h.fr ((Fr.refl _ _).drewN n)
theorem cellsR_length (l : List Ro) : (cellsR l).length = l.length * 6 := by
  induction l with
  | nil => rfl
  | cons v r ih =>
    have e : cellsR (v :: r) = v.cells ++ cellsR r := rfl
    rw [e, List.length_append, ih, List.length_cons]
    simp [Ro.cells]
    omega
theorem cellsR_at {l : List Ro} {j : Nat} (h : j < l.length) (k : Nat) (u : Value) (hu : l[j].cells[k]? = some u) : (cellsR l)[j * 6 + k]? = some u := by
  induction l generalizing j with
  | nil => simp at h
  | cons v r ih =>
    have e : cellsR (v :: r) = v.cells ++ cellsR r := rfl
    have hl : v.cells.length = 6 := rfl
    rcases j with _ | j
    · have hk : k < v.cells.length := (List.getElem?_eq_some_iff.1 hu).1
      rw [e, Nat.zero_mul, Nat.zero_add, List.getElem?_append_left hk]
      exact hu
    · have := ih (j := j) (by simpa using h) (by simpa using hu)
      rw [e, List.getElem?_append_right (by rw [hl]; omega), hl, show (j + 1) * 6 + k - 6 = j * 6 + k by omega]
      exact this
theorem rd_ro {w : World} {A : Option Addr} {l : List Ro} (h : Rd w A (cellsR l)) {j : Nat} (hj : j < l.length) : ∃ g o, A = some ⟨g, o, none⟩ ∧
    w.cell? ⟨g, o + j * 6, none⟩ = some (.int .i64 l[j].entry) ∧ w.cell? ⟨g, o + j * 6 + 1, none⟩ = some (.int .i64 l[j].exit) ∧
    w.cell? ⟨g, o + j * 6 + 2, none⟩ = some (.slice l[j].a1 l[j].path.length l[j].c1) ∧ w.cell? ⟨g, o + j * 6 + 3, none⟩ = some (.slice l[j].a2 l[j].flank.length l[j].c2) ∧
    w.cell? ⟨g, o + j * 6 + 4, none⟩ = some (.slice l[j].a3 l[j].over.length l[j].c3) ∧ w.cell? ⟨g, o + j * 6 + 5, none⟩ = some (.bool l[j].shunt) := by
  have h0 := cellsR_at hj 0 _ rfl
  obtain ⟨g, o, rfl, _, hc⟩ := h (by have := (List.getElem?_eq_some_iff.1 h0).1; omega)
  refine ⟨g, o, rfl, ?_, ?_, ?_, ?_, ?_, ?_⟩
  · exact hc _ _ h0
  · rw [Nat.add_assoc]; exact hc _ _ (cellsR_at hj 1 _ rfl)
  · rw [Nat.add_assoc]; exact hc _ _ (cellsR_at hj 2 _ rfl)
  · rw [Nat.add_assoc]; exact hc _ _ (cellsR_at hj 3 _ rfl)
  · rw [Nat.add_assoc]; exact hc _ _ (cellsR_at hj 4 _ rfl)
  · rw [Nat.add_assoc]; exact hc _ _ (cellsR_at hj 5 _ rfl)

/-! ### Configurations -/
structure Cm where
  A1 : Option Addr
  c1 : Nat
  l : List Sec
  A2 : Option Addr
  c2 : Nat
  js : List Jo
  A3 : Option Addr
  c3 : Nat
  sg : List Sg
  A4 : Option Addr
  c4 : Nat
  cr : List Int
  A5 : Option Addr
  c5 : Nat
  rs : List Ro
  tm : Tm
def Cm.cf (C : Cm) : Cf := ⟨C.l, C.js, C.sg, C.cr, C.rs.map Ro.rt, C.tm⟩
def Cm.arr (C : Cm) : Array Value := #[.slice C.A1 C.l.length C.c1, .slice C.A2 C.js.length C.c2, .slice C.A3 C.sg.length C.c3, .slice C.A4 C.cr.length C.c4, .slice C.A5 C.rs.length C.c5,
  .int .i64 C.tm.age, .int .i64 C.tm.brake, .int .i64 C.tm.hold, .int .i64 C.tm.budget]
def Cm.val (C : Cm) : Value := .agg C.arr
structure Cm.Ok (w : World) (C : Cm) : Prop where
  secs : Rd w C.A1 (cellsS C.l)
  jos : Rd w C.A2 (cellsJ C.js)
  sigs : Rd w C.A3 (cellsG C.sg)
  crs : Rd w C.A4 (C.cr.map (Value.int .i64))
  rts : Rd w C.A5 (cellsR C.rs)
  each : ∀ r ∈ C.rs, r.Ok w
  l1 : C.l.length ≤ C.c1
  l2 : C.js.length ≤ C.c2
  l3 : C.sg.length ≤ C.c3
  l4 : C.cr.length ≤ C.c4
  l5 : C.rs.length ≤ C.c5
  b1 : C.l.length * 24 ≤ 140737488351232
  b2 : C.js.length * 32 ≤ 140737488351232
  b3 : C.sg.length * 16 ≤ 140737488351232
  b4 : C.cr.length * 8 ≤ 140737488351232
  b5 : C.rs.length * 96 ≤ 140737488351232
  k1 : C.c1 ≤ 9223372036854775807
  k2 : C.c2 ≤ 9223372036854775807
  k3 : C.c3 ≤ 9223372036854775807
  k4 : C.c4 ≤ 9223372036854775807
  k5 : C.c5 ≤ 9223372036854775807
theorem Cm.Ok.fr {w w1 : World} {C : Cm} (h : C.Ok w) (f : Fr (fun _ => False) w w1) : C.Ok w1 :=
  { h with secs := h.secs.fr f fun _ _ => id, jos := h.jos.fr f fun _ _ => id, sigs := h.sigs.fr f fun _ _ => id, crs := h.crs.fr f fun _ _ => id, rts := h.rts.fr f fun _ _ => id, each := fun r hr => (h.each r hr).fr f }
end Go.Proofs.Ytbjbkaphigolnaa

namespace Go.Proofs.Ytbjbkaphigolnaa
open Go.ChangeShapes Go.WideShapes Go.ChangeAt Go.RowKit Go.Deep Go.Joins

theorem Try.cellsSec : Try.prog.cellsOf 70 = 3 := by kernel_rfl
theorem Try.cellsJo : Try.prog.cellsOf 103 = 4 := by kernel_rfl
theorem Try.cellsSg : Try.prog.cellsOf 105 = 2 := by kernel_rfl
theorem Try.cellsSt : Try.prog.cellsOf 65 = 3 := by kernel_rfl
theorem Try.cellsNd : Try.prog.cellsOf 45 = 2 := by kernel_rfl
theorem Try.cellsTm : Try.prog.cellsOf 38 = 4 := by kernel_rfl
theorem Try.cellsRo : Try.prog.cellsOf 63 = 6 := by kernel_rfl
theorem Try.cellsCf : Try.prog.cellsOf 40 = 9 := by kernel_rfl
/-- a list's length, as the reading tells it -/
def SL {H : Type} (d : DataW H) (n : Nat) : Prop := (d = .nil ∧ n = 0) ∨ ∃ es rest, d = .slice es rest ∧ es.length = n

section
variable {H : Type} {enc : TypeId × Value → H} {w : World} {base : Nat}
set_option maxRecDepth 100000 in
theorem int_of {n : Nat} {c : Value} {y : DataW H × List MemPlace} (h : DataW.trod enc Try.prog w 0 (fun _ => true) true n 3 [c] = some y) : ∃ a : Int, c = .int .i64 a ∧ -9223372036854775808 ≤ a ∧ a ≤ 9223372036854775807 := by
  obtain ⟨a, e, _, wa⟩ := DataW.trod_int Try.underlying3 h
  refine ⟨a, by injection e, ?_⟩
  simp only [Lit.wf, IntKind.min, IntKind.max, IntKind.signed, IntKind.bits, Bool.and_eq_true, decide_eq_true_eq, if_true] at wa
  have := wa.1
  have := wa.2
  omega
set_option maxRecDepth 100000 in
theorem sec_of {n : Nat} {cs : List Value} {y : DataW H × List MemPlace} (h : DataW.trod enc Try.prog w 0 (fun _ => true) true n 70 cs = some y) : ∃ s : Sec, cs = [.int .i64 s.kind, .int .i64 s.oc, .int .i64 s.line] := by
  obtain ⟨xs, m, _, hx, hlen, hxl, hf⟩ := DataW.trod_struct Try.underlying70 h
  rw [Try.cellsSec] at hlen
  match cs, hlen with
  | [c0, c1, c2], _ =>
    match xs, hxl with
    | [x0, x1, x2], _ =>
      have h0 : DataW.trod enc Try.prog w 0 (fun _ => true) true m 3 (([c0, c1, c2].drop 0).take (Try.prog.cellsOf 3)) = some x0 := hf 0 _ rfl
      have h1 : DataW.trod enc Try.prog w 0 (fun _ => true) true m 3 (([c0, c1, c2].drop 1).take (Try.prog.cellsOf 3)) = some x1 := hf 1 _ rfl
      have h2 : DataW.trod enc Try.prog w 0 (fun _ => true) true m 3 (([c0, c1, c2].drop 2).take (Try.prog.cellsOf 3)) = some x2 := hf 2 _ rfl
      rw [Try.cellInt] at h0 h1 h2
      obtain ⟨a, rfl, _⟩ := int_of (show DataW.trod enc Try.prog w 0 (fun _ => true) true m 3 [c0] = some x0 from h0)
      obtain ⟨b, rfl, _⟩ := int_of (show DataW.trod enc Try.prog w 0 (fun _ => true) true m 3 [c1] = some x1 from h1)
      obtain ⟨c, rfl, _⟩ := int_of (show DataW.trod enc Try.prog w 0 (fun _ => true) true m 3 [c2] = some x2 from h2)
      exact ⟨⟨a, b, c⟩, rfl⟩
set_option maxRecDepth 100000 in
theorem jo_of {n : Nat} {cs : List Value} {y : DataW H × List MemPlace} (h : DataW.trod enc Try.prog w 0 (fun _ => true) true n 103 cs = some y) : ∃ s : Jo, cs = [.int .i64 s.a, .int .i64 s.ae, .int .i64 s.b, .int .i64 s.be] := by
  obtain ⟨xs, m, _, hx, hlen, hxl, hf⟩ := DataW.trod_struct Try.underlying103 h
  rw [Try.cellsJo] at hlen
  match cs, hlen with
  | [c0, c1, c2, c3], _ =>
    match xs, hxl with
    | [x0, x1, x2, x3], _ =>
      have h0 : DataW.trod enc Try.prog w 0 (fun _ => true) true m 3 (([c0, c1, c2, c3].drop 0).take (Try.prog.cellsOf 3)) = some x0 := hf 0 _ rfl
      have h1 : DataW.trod enc Try.prog w 0 (fun _ => true) true m 3 (([c0, c1, c2, c3].drop 1).take (Try.prog.cellsOf 3)) = some x1 := hf 1 _ rfl
      have h2 : DataW.trod enc Try.prog w 0 (fun _ => true) true m 3 (([c0, c1, c2, c3].drop 2).take (Try.prog.cellsOf 3)) = some x2 := hf 2 _ rfl
      have h3 : DataW.trod enc Try.prog w 0 (fun _ => true) true m 3 (([c0, c1, c2, c3].drop 3).take (Try.prog.cellsOf 3)) = some x3 := hf 3 _ rfl
      rw [Try.cellInt] at h0 h1 h2 h3
      obtain ⟨a, rfl, _⟩ := int_of (show DataW.trod enc Try.prog w 0 (fun _ => true) true m 3 [c0] = some x0 from h0)
      obtain ⟨b, rfl, _⟩ := int_of (show DataW.trod enc Try.prog w 0 (fun _ => true) true m 3 [c1] = some x1 from h1)
      obtain ⟨c, rfl, _⟩ := int_of (show DataW.trod enc Try.prog w 0 (fun _ => true) true m 3 [c2] = some x2 from h2)
      obtain ⟨d, rfl, _⟩ := int_of (show DataW.trod enc Try.prog w 0 (fun _ => true) true m 3 [c3] = some x3 from h3)
      exact ⟨⟨a, b, c, d⟩, rfl⟩

theorem exists_fun {α : Type} [Inhabited α] {m : Nat} {Q : Nat → α → Prop} (h : ∀ i, i < m → ∃ a, Q i a) : ∃ f : Nat → α, ∀ i, i < m → Q i (f i) := by
  classical
  refine ⟨fun i => if hi : i < m then (h i hi).choose else default, fun i hi => ?_⟩
  simp only [hi, dif_pos]
  exact (h i hi).choose_spec
/-- a flat list of cells, place by place -/
theorem flat_at {α : Type} (g : α → List Value) (size : Nat) (hg : ∀ a, (g a).length = size) : ∀ (l : List α) (j : Nat) (u : Value), (l.flatMap g)[j]? = some u → ∃ i k, j = i * size + k ∧ k < size ∧ ∃ h : i < l.length, (g l[i])[k]? = some u
  | [], j, u, h => by simp at h
  | a :: r, j, u, h => by
    rw [List.flatMap_cons] at h
    by_cases hj : j < size
    · rw [List.getElem?_append_left (by rw [hg]; exact hj)] at h
      exact ⟨0, j, by omega, hj, by simp, h⟩
    · rw [List.getElem?_append_right (by rw [hg]; omega), hg] at h
      obtain ⟨i, k, e, hk, hi, hu⟩ := flat_at g size hg r (j - size) u h
      exact ⟨i + 1, k, by rw [Nat.add_mul]; omega, hk, by simpa using hi, by simpa using hu⟩
set_option maxRecDepth 100000 in
theorem sg_of {n : Nat} {cs : List Value} {y : DataW H × List MemPlace} (h : DataW.trod enc Try.prog w 0 (fun _ => true) true n 105 cs = some y) : ∃ s : Sg, cs = [.int .i64 s.sec, .int .i64 s.fin] := by
  obtain ⟨xs, m, _, hx, hlen, hxl, hf⟩ := DataW.trod_struct Try.underlying105 h
  rw [Try.cellsSg] at hlen
  match cs, hlen with
  | [c0, c1], _ =>
    match xs, hxl with
    | [x0, x1], _ =>
      have h0 : DataW.trod enc Try.prog w 0 (fun _ => true) true m 3 (([c0, c1].drop 0).take (Try.prog.cellsOf 3)) = some x0 := hf 0 _ rfl
      have h1 : DataW.trod enc Try.prog w 0 (fun _ => true) true m 3 (([c0, c1].drop 1).take (Try.prog.cellsOf 3)) = some x1 := hf 1 _ rfl
      rw [Try.cellInt] at h0 h1
      obtain ⟨a0, rfl, _⟩ := int_of (show DataW.trod enc Try.prog w 0 (fun _ => true) true m 3 [c0] = some x0 from h0)
      obtain ⟨a1, rfl, _⟩ := int_of (show DataW.trod enc Try.prog w 0 (fun _ => true) true m 3 [c1] = some x1 from h1)
      exact ⟨⟨a0, a1⟩, rfl⟩
set_option maxRecDepth 100000 in
theorem st_of {n : Nat} {cs : List Value} {y : DataW H × List MemPlace} (h : DataW.trod enc Try.prog w 0 (fun _ => true) true n 65 cs = some y) : ∃ s : St, cs = [.int .i64 s.sec, .int .i64 s.inn, .int .i64 s.out] := by
  obtain ⟨xs, m, _, hx, hlen, hxl, hf⟩ := DataW.trod_struct Try.underlying65 h
  rw [Try.cellsSt] at hlen
  match cs, hlen with
  | [c0, c1, c2], _ =>
    match xs, hxl with
    | [x0, x1, x2], _ =>
      have h0 : DataW.trod enc Try.prog w 0 (fun _ => true) true m 3 (([c0, c1, c2].drop 0).take (Try.prog.cellsOf 3)) = some x0 := hf 0 _ rfl
      have h1 : DataW.trod enc Try.prog w 0 (fun _ => true) true m 3 (([c0, c1, c2].drop 1).take (Try.prog.cellsOf 3)) = some x1 := hf 1 _ rfl
      have h2 : DataW.trod enc Try.prog w 0 (fun _ => true) true m 3 (([c0, c1, c2].drop 2).take (Try.prog.cellsOf 3)) = some x2 := hf 2 _ rfl
      rw [Try.cellInt] at h0 h1 h2
      obtain ⟨a0, rfl, _⟩ := int_of (show DataW.trod enc Try.prog w 0 (fun _ => true) true m 3 [c0] = some x0 from h0)
      obtain ⟨a1, rfl, _⟩ := int_of (show DataW.trod enc Try.prog w 0 (fun _ => true) true m 3 [c1] = some x1 from h1)
      obtain ⟨a2, rfl, _⟩ := int_of (show DataW.trod enc Try.prog w 0 (fun _ => true) true m 3 [c2] = some x2 from h2)
      exact ⟨⟨a0, a1, a2⟩, rfl⟩
set_option maxRecDepth 100000 in
theorem nd_of {n : Nat} {cs : List Value} {y : DataW H × List MemPlace} (h : DataW.trod enc Try.prog w 0 (fun _ => true) true n 45 cs = some y) : ∃ s : Nd, cs = [.int .i64 s.sec, .int .i64 s.pos] := by
  obtain ⟨xs, m, _, hx, hlen, hxl, hf⟩ := DataW.trod_struct Try.underlying45 h
  rw [Try.cellsNd] at hlen
  match cs, hlen with
  | [c0, c1], _ =>
    match xs, hxl with
    | [x0, x1], _ =>
      have h0 : DataW.trod enc Try.prog w 0 (fun _ => true) true m 3 (([c0, c1].drop 0).take (Try.prog.cellsOf 3)) = some x0 := hf 0 _ rfl
      have h1 : DataW.trod enc Try.prog w 0 (fun _ => true) true m 3 (([c0, c1].drop 1).take (Try.prog.cellsOf 3)) = some x1 := hf 1 _ rfl
      rw [Try.cellInt] at h0 h1
      obtain ⟨a0, rfl, _⟩ := int_of (show DataW.trod enc Try.prog w 0 (fun _ => true) true m 3 [c0] = some x0 from h0)
      obtain ⟨a1, rfl, _⟩ := int_of (show DataW.trod enc Try.prog w 0 (fun _ => true) true m 3 [c1] = some x1 from h1)
      exact ⟨⟨a0, a1⟩, rfl⟩
set_option maxRecDepth 100000 in
theorem tm_of {n : Nat} {cs : List Value} {y : DataW H × List MemPlace} (h : DataW.trod enc Try.prog w 0 (fun _ => true) true n 38 cs = some y) : ∃ s : Tm, cs = [.int .i64 s.age, .int .i64 s.brake, .int .i64 s.hold, .int .i64 s.budget] := by
  obtain ⟨xs, m, _, hx, hlen, hxl, hf⟩ := DataW.trod_struct Try.underlying38 h
  rw [Try.cellsTm] at hlen
  match cs, hlen with
  | [c0, c1, c2, c3], _ =>
    match xs, hxl with
    | [x0, x1, x2, x3], _ =>
      have h0 : DataW.trod enc Try.prog w 0 (fun _ => true) true m 3 (([c0, c1, c2, c3].drop 0).take (Try.prog.cellsOf 3)) = some x0 := hf 0 _ rfl
      have h1 : DataW.trod enc Try.prog w 0 (fun _ => true) true m 3 (([c0, c1, c2, c3].drop 1).take (Try.prog.cellsOf 3)) = some x1 := hf 1 _ rfl
      have h2 : DataW.trod enc Try.prog w 0 (fun _ => true) true m 3 (([c0, c1, c2, c3].drop 2).take (Try.prog.cellsOf 3)) = some x2 := hf 2 _ rfl
      have h3 : DataW.trod enc Try.prog w 0 (fun _ => true) true m 3 (([c0, c1, c2, c3].drop 3).take (Try.prog.cellsOf 3)) = some x3 := hf 3 _ rfl
      rw [Try.cellInt] at h0 h1 h2 h3
      obtain ⟨a0, rfl, _⟩ := int_of (show DataW.trod enc Try.prog w 0 (fun _ => true) true m 3 [c0] = some x0 from h0)
      obtain ⟨a1, rfl, _⟩ := int_of (show DataW.trod enc Try.prog w 0 (fun _ => true) true m 3 [c1] = some x1 from h1)
      obtain ⟨a2, rfl, _⟩ := int_of (show DataW.trod enc Try.prog w 0 (fun _ => true) true m 3 [c2] = some x2 from h2)
      obtain ⟨a3, rfl, _⟩ := int_of (show DataW.trod enc Try.prog w 0 (fun _ => true) true m 3 [c3] = some x3 from h3)
      exact ⟨⟨a0, a1, a2, a3⟩, rfl⟩
set_option maxRecDepth 100000 in
/-- A slice of structs that came in: read as a flat row. -/
theorem open_flatQ {α : Type} [Inhabited α] {t e : TypeId} (Q : α → DataW H → Prop) {n : Nat} {v : Value} {y : DataW H × List MemPlace} (size : Nat) (g : α → List Value) (hg : ∀ a, (g a).length = size) (ht : Try.prog.underlying t = some (.slice e)) (hc : Try.prog.cellsOf e = size)
    (hof : ∀ (n : Nat) (cs : List Value) (y : DataW H × List MemPlace), DataW.trod enc Try.prog w 0 (fun _ => true) true n e cs = some y → ∃ a : α, cs = g a ∧ Q a y.1) (h : DataW.trod enc Try.prog w 0 (fun _ => true) true n t [v] = some y) :
    ∃ (A : Option Addr) (c : Nat) (l : List α), v = .slice A l.length c ∧ Rd w A (l.flatMap g) ∧ l.length ≤ c ∧ c ≤ maxLen ∧ ((y.1 = .nil ∧ l = []) ∨ ∃ es rest, y.1 = .slice es rest ∧ es.length = l.length ∧ ∀ i (hi : i < l.length), ∃ x, es[i]? = some x ∧ Q l[i] x) := by
  rcases open_slice ht h with ⟨hcs, hx⟩ | ⟨a, len, cap, m, n', D, Pl, hcs, hb, hl, hm, hmm, hx, hi⟩
  · simp only [List.cons.injEq, and_true] at hcs
    exact ⟨none, 0, [], hcs, fun h => by simp at h, Nat.zero_le _, Nat.zero_le _, .inl ⟨by rw [hx], rfl⟩⟩
  · simp only [List.cons.injEq, and_true] at hcs
    have hmc : m = cap := by simpa using hmm
    subst hmc
    rw [hc] at hi
    have hq : ∀ i, i < len → ∃ x : α, (∀ j, j < size → w.cell? ((a.add (i * size)).add j) = (g x)[j]?) ∧ Q x (D i) := by
      intro i hil
      obtain ⟨cs', hc', ht'⟩ := hi i (by omega)
      obtain ⟨x, rfl, hQ⟩ := hof _ _ _ ht'
      exact ⟨x, (World.cells?_some hc').2.2, hQ⟩
    obtain ⟨f, hfn⟩ := exists_fun hq
    refine ⟨some a, m, (List.range len).map f, by simp [hcs], rd_of fun j u hu => ?_, by simpa using hl, hm, .inr ⟨_, _, by rw [hx], by simp, fun i hi' => ?_⟩⟩
    · obtain ⟨i, k, rfl, hk, hil, hu⟩ := flat_at g size hg _ j u hu
      have hil' : i < len := by simpa using hil
      have := (hfn i hil').1 k hk
      rw [← Go.Deep.add_add, this]
      simpa using hu
    · have hil : i < len := by simpa using hi'
      refine ⟨D i, by simp [hil], ?_⟩
      simp only [List.getElem_map, List.getElem_range]
      exact (hfn i hil).2
set_option maxRecDepth 100000 in
theorem open_secs {n : Nat} {v : Value} {y : DataW H × List MemPlace} (h : DataW.trod enc Try.prog w 0 (fun _ => true) true n 32 [v] = some y) :
    ∃ (A : Option Addr) (c : Nat) (l : List Sec), v = .slice A l.length c ∧ Rd w A (cellsS l) ∧ l.length ≤ c ∧ c ≤ maxLen ∧ SL y.1 l.length := by
  obtain ⟨A, c, l, e, r, k, m, s⟩ := open_flatQ (fun _ _ => True) 3 (fun s : Sec => [.int .i64 s.kind, .int .i64 s.oc, .int .i64 s.line]) (fun _ => rfl) Try.underlying32 Try.cellsSec (fun _ _ _ h => by obtain ⟨a, e⟩ := sec_of h; exact ⟨a, e, trivial⟩) h
  refine ⟨A, c, l, e, r, k, m, ?_⟩
  rcases s with ⟨a, b⟩ | ⟨es, rest, a, b, _⟩
  · exact .inl ⟨a, by rw [b]; rfl⟩
  · exact .inr ⟨es, rest, a, b⟩
set_option maxRecDepth 100000 in
theorem open_jos {n : Nat} {v : Value} {y : DataW H × List MemPlace} (h : DataW.trod enc Try.prog w 0 (fun _ => true) true n 33 [v] = some y) :
    ∃ (A : Option Addr) (c : Nat) (l : List Jo), v = .slice A l.length c ∧ Rd w A (cellsJ l) ∧ l.length ≤ c ∧ c ≤ maxLen ∧ SL y.1 l.length := by
  obtain ⟨A, c, l, e, r, k, m, s⟩ := open_flatQ (fun _ _ => True) 4 (fun s : Jo => [.int .i64 s.a, .int .i64 s.ae, .int .i64 s.b, .int .i64 s.be]) (fun _ => rfl) Try.underlying33 Try.cellsJo (fun _ _ _ h => by obtain ⟨a, e⟩ := jo_of h; exact ⟨a, e, trivial⟩) h
  refine ⟨A, c, l, e, r, k, m, ?_⟩
  rcases s with ⟨a, b⟩ | ⟨es, rest, a, b, _⟩
  · exact .inl ⟨a, by rw [b]; rfl⟩
  · exact .inr ⟨es, rest, a, b⟩
set_option maxRecDepth 100000 in
theorem open_sgs {n : Nat} {v : Value} {y : DataW H × List MemPlace} (h : DataW.trod enc Try.prog w 0 (fun _ => true) true n 34 [v] = some y) :
    ∃ (A : Option Addr) (c : Nat) (l : List Sg), v = .slice A l.length c ∧ Rd w A (cellsG l) ∧ l.length ≤ c ∧ c ≤ maxLen ∧ SL y.1 l.length := by
  obtain ⟨A, c, l, e, r, k, m, s⟩ := open_flatQ (fun _ _ => True) 2 (fun s : Sg => [.int .i64 s.sec, .int .i64 s.fin]) (fun _ => rfl) Try.underlying34 Try.cellsSg (fun _ _ _ h => by obtain ⟨a, e⟩ := sg_of h; exact ⟨a, e, trivial⟩) h
  refine ⟨A, c, l, e, r, k, m, ?_⟩
  rcases s with ⟨a, b⟩ | ⟨es, rest, a, b, _⟩
  · exact .inl ⟨a, by rw [b]; rfl⟩
  · exact .inr ⟨es, rest, a, b⟩
set_option maxRecDepth 100000 in
theorem open_sts {n : Nat} {v : Value} {y : DataW H × List MemPlace} (h : DataW.trod enc Try.prog w 0 (fun _ => true) true n 61 [v] = some y) :
    ∃ (A : Option Addr) (c : Nat) (l : List St), v = .slice A l.length c ∧ Rd w A (cellsT l) ∧ l.length ≤ c ∧ c ≤ maxLen ∧ SL y.1 l.length := by
  obtain ⟨A, c, l, e, r, k, m, s⟩ := open_flatQ (fun _ _ => True) 3 (fun s : St => [.int .i64 s.sec, .int .i64 s.inn, .int .i64 s.out]) (fun _ => rfl) Try.underlying61 Try.cellsSt (fun _ _ _ h => by obtain ⟨a, e⟩ := st_of h; exact ⟨a, e, trivial⟩) h
  refine ⟨A, c, l, e, r, k, m, ?_⟩
  rcases s with ⟨a, b⟩ | ⟨es, rest, a, b, _⟩
  · exact .inl ⟨a, by rw [b]; rfl⟩
  · exact .inr ⟨es, rest, a, b⟩
set_option maxRecDepth 100000 in
theorem open_nds {n : Nat} {v : Value} {y : DataW H × List MemPlace} (h : DataW.trod enc Try.prog w 0 (fun _ => true) true n 41 [v] = some y) :
    ∃ (A : Option Addr) (c : Nat) (l : List Nd), v = .slice A l.length c ∧ Rd w A (cellsN l) ∧ l.length ≤ c ∧ c ≤ maxLen ∧ SL y.1 l.length := by
  obtain ⟨A, c, l, e, r, k, m, s⟩ := open_flatQ (fun _ _ => True) 2 (fun s : Nd => [.int .i64 s.sec, .int .i64 s.pos]) (fun _ => rfl) Try.underlying41 Try.cellsNd (fun _ _ _ h => by obtain ⟨a, e⟩ := nd_of h; exact ⟨a, e, trivial⟩) h
  refine ⟨A, c, l, e, r, k, m, ?_⟩
  rcases s with ⟨a, b⟩ | ⟨es, rest, a, b, _⟩
  · exact .inl ⟨a, by rw [b]; rfl⟩
  · exact .inr ⟨es, rest, a, b⟩
set_option maxRecDepth 100000 in
theorem open_nums {n : Nat} {v : Value} {y : DataW H × List MemPlace} (h : DataW.trod enc Try.prog w 0 (fun _ => true) true n 35 [v] = some y) :
    ∃ (A : Option Addr) (c : Nat) (l : List Int), v = .slice A l.length c ∧ Rd w A (l.map (Value.int .i64)) ∧ l.length ≤ c ∧ c ≤ maxLen ∧ SL y.1 l.length := by
  rcases open_ints Try.underlying35 Try.underlying3 Try.cellInt h with ⟨hcs, hd⟩ | ⟨a, len, cap, zs, hcs, _, hl, hm, hz, hd, hcell, _⟩
  · exact ⟨none, 0, [], by simpa using hcs, (fun h => by simp at h), Nat.le_refl _, Nat.zero_le _, .inl ⟨by rw [hd], rfl⟩⟩
  · have hzc : zs.length = cap := by simpa using hz
    have hlen' : (zs.take len).length = len := by rw [List.length_take]; omega
    refine ⟨some a, cap, zs.take len, by rw [hlen']; simpa using hcs, rd_of fun i u hu => ?_, by rw [hlen']; exact hl, hm, .inr ⟨lits .i64 (zs.take len), lits .i64 (zs.drop len), by rw [hd], by rw [lits_len]⟩⟩
    have hi : i < len := by
      have := (List.getElem?_eq_some_iff.1 hu).1
      rw [List.length_map, hlen'] at this
      exact this
    rw [hcell i (by omega)]
    rw [List.getElem?_map, List.getElem?_take, if_pos hi, List.getElem?_eq_getElem (by omega)] at hu
    simp only [Option.map_some, Option.some.injEq] at hu
    rw [← hu, List.getD_eq_getElem?_getD, List.getElem?_eq_getElem (by omega)]
    rfl
/-- a route that came in, but for its lists' sizes; and what the reading tells of it -/
def RoIn (w : World) (r : Ro) (d : DataW H) : Prop :=
  (Rd w r.a1 (cellsT r.path) ∧ Rd w r.a2 (cellsN r.flank) ∧ Rd w r.a3 (r.over.map (Value.int .i64)) ∧ r.path.length ≤ r.c1 ∧ r.flank.length ≤ r.c2 ∧ r.over.length ≤ r.c3 ∧ r.c1 ≤ maxLen ∧ r.c2 ≤ maxLen ∧ r.c3 ≤ maxLen) ∧
  ∃ d0 d1 d2 d3 d4 d5, d = .agg [d0, d1, d2, d3, d4, d5] ∧ SL d2 r.path.length ∧ SL d3 r.flank.length ∧ SL d4 r.over.length
theorem Try.cellsL1 : Try.prog.cellsOf 61 = 1 := by kernel_rfl
theorem Try.cellsL2 : Try.prog.cellsOf 41 = 1 := by kernel_rfl
theorem Try.cellsL3 : Try.prog.cellsOf 35 = 1 := by kernel_rfl
theorem Try.cellsBo : Try.prog.cellsOf 4 = 1 := by kernel_rfl
set_option maxRecDepth 100000 in
theorem ro_of {n : Nat} {cs : List Value} {y : DataW H × List MemPlace} (h : DataW.trod enc Try.prog w 0 (fun _ => true) true n 63 cs = some y) : ∃ r : Ro, cs = r.cells ∧ RoIn w r y.1 := by
  obtain ⟨xs, m, _, hx, hlen, hxl, hf⟩ := DataW.trod_struct Try.underlying63 h
  rw [Try.cellsRo] at hlen
  match cs, hlen with
  | [e0, e1, e2, e3, e4, e5], _ =>
    match xs, hxl with
    | [x0, x1, x2, x3, x4, x5], _ =>
      have h0 : DataW.trod enc Try.prog w 0 (fun _ => true) true m 3 (([e0, e1, e2, e3, e4, e5].drop 0).take (Try.prog.cellsOf 3)) = some x0 := hf 0 _ rfl
      have h1 : DataW.trod enc Try.prog w 0 (fun _ => true) true m 3 (([e0, e1, e2, e3, e4, e5].drop 1).take (Try.prog.cellsOf 3)) = some x1 := hf 1 _ rfl
      have h2 : DataW.trod enc Try.prog w 0 (fun _ => true) true m 61 (([e0, e1, e2, e3, e4, e5].drop 2).take (Try.prog.cellsOf 61)) = some x2 := hf 2 _ rfl
      have h3 : DataW.trod enc Try.prog w 0 (fun _ => true) true m 41 (([e0, e1, e2, e3, e4, e5].drop 3).take (Try.prog.cellsOf 41)) = some x3 := hf 3 _ rfl
      have h4 : DataW.trod enc Try.prog w 0 (fun _ => true) true m 35 (([e0, e1, e2, e3, e4, e5].drop 4).take (Try.prog.cellsOf 35)) = some x4 := hf 4 _ rfl
      have h5 : DataW.trod enc Try.prog w 0 (fun _ => true) true m 4 (([e0, e1, e2, e3, e4, e5].drop 5).take (Try.prog.cellsOf 4)) = some x5 := hf 5 _ rfl
      rw [Try.cellInt] at h0 h1
      rw [Try.cellsL1] at h2
      rw [Try.cellsL2] at h3
      rw [Try.cellsL3] at h4
      rw [Try.cellsBo] at h5
      obtain ⟨a0, rfl, _⟩ := int_of (show DataW.trod enc Try.prog w 0 (fun _ => true) true m 3 [e0] = some x0 from h0)
      obtain ⟨a1, rfl, _⟩ := int_of (show DataW.trod enc Try.prog w 0 (fun _ => true) true m 3 [e1] = some x1 from h1)
      obtain ⟨A1, k1, l1, rfl, r1, i1, m1, s1⟩ := open_sts (show DataW.trod enc Try.prog w 0 (fun _ => true) true m 61 [e2] = some x2 from h2)
      obtain ⟨A2, k2, l2, rfl, r2, i2, m2, s2⟩ := open_nds (show DataW.trod enc Try.prog w 0 (fun _ => true) true m 41 [e3] = some x3 from h3)
      obtain ⟨A3, k3, l3, rfl, r3, i3, m3, s3⟩ := open_nums (show DataW.trod enc Try.prog w 0 (fun _ => true) true m 35 [e4] = some x4 from h4)
      obtain ⟨b, eb, _⟩ := DataW.trod_bool Try.underlying4 (show DataW.trod enc Try.prog w 0 (fun _ => true) true m 4 [e5] = some x5 from h5)
      have eb : e5 = .bool b := by simpa using eb
      subst eb
      exact ⟨⟨a0, a1, A1, k1, l1, A2, k2, l2, A3, k3, l3, b⟩, rfl, ⟨r1, r2, r3, i1, i2, i3, m1, m2, m3⟩, _, _, _, _, _, _, by rw [hx]; rfl, s1, s2, s3⟩
set_option maxRecDepth 100000 in
theorem open_ros {n : Nat} {v : Value} {y : DataW H × List MemPlace} (h : DataW.trod enc Try.prog w 0 (fun _ => true) true n 36 [v] = some y) :
    ∃ (A : Option Addr) (c : Nat) (l : List Ro), v = .slice A l.length c ∧ Rd w A (cellsR l) ∧ l.length ≤ c ∧ c ≤ maxLen ∧ ((y.1 = .nil ∧ l = []) ∨ ∃ es rest, y.1 = .slice es rest ∧ es.length = l.length ∧ ∀ i (hi : i < l.length), ∃ x, es[i]? = some x ∧ RoIn w l[i] x) :=
  open_flatQ (RoIn w) 6 Ro.cells (fun _ => rfl) Try.underlying36 Try.cellsRo (fun _ _ _ h => ro_of h) h
/-- a configuration that came in, but for its lists' sizes; and what the reading tells of it -/
structure CfIn (w : World) (C : Cm) (d : DataW H) : Prop where
  secs : Rd w C.A1 (cellsS C.l)
  jos : Rd w C.A2 (cellsJ C.js)
  sigs : Rd w C.A3 (cellsG C.sg)
  crs : Rd w C.A4 (C.cr.map (Value.int .i64))
  rts : Rd w C.A5 (cellsR C.rs)
  l1 : C.l.length ≤ C.c1
  l2 : C.js.length ≤ C.c2
  l3 : C.sg.length ≤ C.c3
  l4 : C.cr.length ≤ C.c4
  l5 : C.rs.length ≤ C.c5
  m1 : C.c1 ≤ maxLen
  m2 : C.c2 ≤ maxLen
  m3 : C.c3 ≤ maxLen
  m4 : C.c4 ≤ maxLen
  m5 : C.c5 ≤ maxLen
  data : ∃ d1 d2 d3 d4 d5 d6, d = .agg [d1, d2, d3, d4, d5, d6] ∧ SL d1 C.l.length ∧ SL d2 C.js.length ∧ SL d3 C.sg.length ∧ SL d4 C.cr.length ∧ ((d5 = .nil ∧ C.rs = []) ∨ ∃ es rest, d5 = .slice es rest ∧ es.length = C.rs.length ∧ ∀ i (hi : i < C.rs.length), ∃ x, es[i]? = some x ∧ RoIn w C.rs[i] x)
theorem Try.cellsK1 : Try.prog.cellsOf 32 = 1 := by kernel_rfl
theorem Try.cellsK2 : Try.prog.cellsOf 33 = 1 := by kernel_rfl
theorem Try.cellsK3 : Try.prog.cellsOf 34 = 1 := by kernel_rfl
theorem Try.cellsK5 : Try.prog.cellsOf 36 = 1 := by kernel_rfl
set_option maxRecDepth 100000 in
set_option maxHeartbeats 1000000 in
theorem open_conf {v : Value} {d : DataW H} {ps : List MemPlace} (hv : Value.okWide Try.prog w .any base 40 v) (h : DataW.Trod enc Try.prog w 0 (fun _ => true) true 40 v d ps) : ∃ C : Cm, v = C.val ∧ CfIn w C d := by
  simp only [Value.okWide, Try.underlying40] at hv
  obtain ⟨cs, rfl, hcs, _⟩ := hv
  obtain ⟨fuel, hf0⟩ := h
  obtain ⟨l⟩ := cs
  obtain ⟨xs, m, _, hx, hlen, hxl, hf⟩ := DataW.trod_struct Try.underlying40 hf0
  rw [Try.cellsCf] at hlen
  match l, hlen with
  | [e0, e1, e2, e3, e4, e5, e6, e7, e8], _ =>
    match xs, hxl with
    | [x0, x1, x2, x3, x4, x5], _ =>
      have h0 : DataW.trod enc Try.prog w 0 (fun _ => true) true m 32 (([e0, e1, e2, e3, e4, e5, e6, e7, e8].drop 0).take (Try.prog.cellsOf 32)) = some x0 := hf 0 _ rfl
      have h1 : DataW.trod enc Try.prog w 0 (fun _ => true) true m 33 (([e0, e1, e2, e3, e4, e5, e6, e7, e8].drop 1).take (Try.prog.cellsOf 33)) = some x1 := hf 1 _ rfl
      have h2 : DataW.trod enc Try.prog w 0 (fun _ => true) true m 34 (([e0, e1, e2, e3, e4, e5, e6, e7, e8].drop 2).take (Try.prog.cellsOf 34)) = some x2 := hf 2 _ rfl
      have h3 : DataW.trod enc Try.prog w 0 (fun _ => true) true m 35 (([e0, e1, e2, e3, e4, e5, e6, e7, e8].drop 3).take (Try.prog.cellsOf 35)) = some x3 := hf 3 _ rfl
      have h4 : DataW.trod enc Try.prog w 0 (fun _ => true) true m 36 (([e0, e1, e2, e3, e4, e5, e6, e7, e8].drop 4).take (Try.prog.cellsOf 36)) = some x4 := hf 4 _ rfl
      have h5 : DataW.trod enc Try.prog w 0 (fun _ => true) true m 38 (([e0, e1, e2, e3, e4, e5, e6, e7, e8].drop 5).take (Try.prog.cellsOf 38)) = some x5 := hf 5 _ rfl
      rw [Try.cellsK1] at h0
      rw [Try.cellsK2] at h1
      rw [Try.cellsK3] at h2
      rw [Try.cellsL3] at h3
      rw [Try.cellsK5] at h4
      rw [Try.cellsTm] at h5
      obtain ⟨A1, k1, l1, rfl, r1, i1, m1, s1⟩ := open_secs (show DataW.trod enc Try.prog w 0 (fun _ => true) true m 32 [e0] = some x0 from h0)
      obtain ⟨A2, k2, l2, rfl, r2, i2, m2, s2⟩ := open_jos (show DataW.trod enc Try.prog w 0 (fun _ => true) true m 33 [e1] = some x1 from h1)
      obtain ⟨A3, k3, l3, rfl, r3, i3, m3, s3⟩ := open_sgs (show DataW.trod enc Try.prog w 0 (fun _ => true) true m 34 [e2] = some x2 from h2)
      obtain ⟨A4, k4, l4, rfl, r4, i4, m4, s4⟩ := open_nums (show DataW.trod enc Try.prog w 0 (fun _ => true) true m 35 [e3] = some x3 from h3)
      obtain ⟨A5, k5, l5, rfl, r5, i5, m5, s5⟩ := open_ros (show DataW.trod enc Try.prog w 0 (fun _ => true) true m 36 [e4] = some x4 from h4)
      obtain ⟨t, et⟩ := tm_of (show DataW.trod enc Try.prog w 0 (fun _ => true) true m 38 [e5, e6, e7, e8] = some x5 from h5)
      injection et with t0 et
      injection et with t1 et
      injection et with t2 et
      injection et with t3 _
      subst t0 t1 t2 t3
      have hd : d = .agg [x0.1, x1.1, x2.1, x3.1, x4.1, x5.1] := by
        have := congrArg Prod.fst hx
        exact this
      exact ⟨⟨A1, k1, l1, A2, k2, l2, A3, k3, l3, A4, k4, l4, A5, k5, l5, t⟩, rfl, ⟨r1, r2, r3, r4, r5, i1, i2, i3, i4, i5, m1, m2, m3, m4, m5, x0.1, x1.1, x2.1, x3.1, x4.1, x5.1, hd, s1, s2, s3, s4, s5⟩⟩
end
end Go.Proofs.Ytbjbkaphigolnaa

namespace Go.Proofs.Ytbjbkaphigolnaa
open Go.ChangeShapes Go.WideShapes Go.ChangeAt Go.RowKit Go.Deep

theorem weights_all {H : Type} {P : Program} {e : TypeId} : ∀ {es : List (DataW H)} {i : Nat} {x : DataW H} {n : Nat}, es[i]? = some x → n ∈ x.weights P e → n ∈ DataW.weightsAll P e es
  | y :: es, 0, x, n, h, hn => by
    simp only [List.getElem?_cons_zero, Option.some.injEq] at h
    subst h
    simp only [DataW.weightsAll, List.mem_append]
    exact .inl hn
  | y :: es, i + 1, x, n, h, hn => by
    simp only [List.getElem?_cons_succ] at h
    simp only [DataW.weightsAll, List.mem_append]
    exact .inr (weights_all h hn)
  | [], _, _, _, h, _ => by simp at h
section
variable {H : Type}
theorem sl_weight {d : DataW H} {n b : Nat} {t e : TypeId} (s : SL d n) (ht : Try.prog.underlying t = some (.slice e)) (hb : Try.prog.bytesOf e = b) : n = 0 ∨ ∃ k, k ∈ d.weights Try.prog t ∧ n * b ≤ k := by
  rcases s with ⟨_, h⟩ | ⟨es, rest, rfl, h⟩
  · exact .inl h
  · refine .inr ⟨(es.length + rest.length) * b, ?_, ?_⟩
    · simp only [DataW.weights, ht, hb]
      simp
    · rw [← h]
      exact Nat.mul_le_mul_right _ (Nat.le_add_right _ _)
theorem sl_size {ts : List TypeId} {ds : List (DataW H)} (hsz : (DataW.weightsEach Try.prog ts ds).all (· ≤ reachBytes) = true) {d : DataW H} {n b : Nat} {t e : TypeId} (s : SL d n) (ht : Try.prog.underlying t = some (.slice e)) (hb : Try.prog.bytesOf e = b)
    (hin : ∀ k, k ∈ d.weights Try.prog t → k ∈ DataW.weightsEach Try.prog ts ds) : n * b ≤ 140737488351232 := by
  rcases sl_weight s ht hb with h | ⟨k, hk, hle⟩
  · rw [h]; omega
  · have := List.all_eq_true.1 hsz _ (hin k hk)
    simp only [decide_eq_true_eq] at this
    unfold reachBytes at this
    omega
theorem cf_field {ts : List TypeId} {ds : List (DataW H)} {j : Nat} {d1 d2 d3 d4 d5 d6 : DataW H} (ht : ts[j]? = some 40) (hd : ds[j]? = some (.agg [d1, d2, d3, d4, d5, d6])) {i : Nat} {t : TypeId} {di : DataW H} (hi : [32, 33, 34, 35, 36, 38][i]? = some t) (hdi : [d1, d2, d3, d4, d5, d6][i]? = some di) : ∀ k, k ∈ di.weights Try.prog t → k ∈ DataW.weightsEach Try.prog ts ds := fun k hk => by
  refine DataW.weights_mem_each ht hd _ ?_
  simp only [DataW.weights, Try.underlying40]
  exact DataW.weights_mem_each hi hdi _ hk
theorem ro_field {es rest : List (DataW H)} {j : Nat} {d1 d2 d3 d4 d5 d6 : DataW H} (hd : es[j]? = some (.agg [d1, d2, d3, d4, d5, d6])) {i : Nat} {t : TypeId} {di : DataW H} (hi : [3, 3, 61, 41, 35, 4][i]? = some t) (hdi : [d1, d2, d3, d4, d5, d6][i]? = some di) : ∀ k, k ∈ di.weights Try.prog t → k ∈ (DataW.slice es rest : DataW H).weights Try.prog 36 := fun k hk => by
  simp only [DataW.weights, Try.underlying36]
  refine List.mem_cons_of_mem _ (List.mem_append.2 (.inl (weights_all hd ?_)))
  simp only [DataW.weights, Try.underlying63]
  exact DataW.weights_mem_each hi hdi _ hk
theorem Try.by1 : Try.prog.bytesOf 70 = 24 := by kernel_rfl
theorem Try.by2 : Try.prog.bytesOf 103 = 32 := by kernel_rfl
theorem Try.by3 : Try.prog.bytesOf 105 = 16 := by kernel_rfl
theorem Try.by4 : Try.prog.bytesOf 3 = 8 := by kernel_rfl
theorem Try.by5 : Try.prog.bytesOf 63 = 96 := by kernel_rfl
theorem Try.by6 : Try.prog.bytesOf 65 = 24 := by kernel_rfl
theorem Try.by7 : Try.prog.bytesOf 45 = 16 := by kernel_rfl
/-- what came in is a configuration that the contracts take -/
theorem conf_ok {w : World} {C : Cm} {d : DataW H} {ts : List TypeId} {ds : List (DataW H)} {j : Nat} (h : CfIn w C d) (hsz : (DataW.weightsEach Try.prog ts ds).all (· ≤ reachBytes) = true) (ht : ts[j]? = some 40) (hd : ds[j]? = some d) : C.Ok w := by
  obtain ⟨d1, d2, d3, d4, d5, d6, rfl, s1, s2, s3, s4, s5⟩ := h.data
  have m1 := h.m1
  have m2 := h.m2
  have m3 := h.m3
  have m4 := h.m4
  have m5 := h.m5
  unfold maxLen at m1 m2 m3 m4 m5
  have b1 := sl_size hsz s1 Try.underlying32 Try.by1 (cf_field ht hd (i := 0) rfl rfl)
  have b2 := sl_size hsz s2 Try.underlying33 Try.by2 (cf_field ht hd (i := 1) rfl rfl)
  have b3 := sl_size hsz s3 Try.underlying34 Try.by3 (cf_field ht hd (i := 2) rfl rfl)
  have b4 := sl_size hsz s4 Try.underlying35 Try.by4 (cf_field ht hd (i := 3) rfl rfl)
  have s5' : SL d5 C.rs.length := by
    rcases s5 with ⟨a, b⟩ | ⟨es, rest, a, b, _⟩
    · exact .inl ⟨a, by rw [b]; rfl⟩
    · exact .inr ⟨es, rest, a, b⟩
  have b5 := sl_size hsz s5' Try.underlying36 Try.by5 (cf_field ht hd (i := 4) rfl rfl)
  refine ⟨h.secs, h.jos, h.sigs, h.crs, h.rts, fun r hr => ?_, h.l1, h.l2, h.l3, h.l4, h.l5, b1, b2, b3, b4, b5, by omega, by omega, by omega, by omega, by omega⟩
  rcases s5 with ⟨_, e⟩ | ⟨es, rest, rfl, _, he⟩
  · rw [e] at hr; cases hr
  · obtain ⟨i, hi, rfl⟩ := List.mem_iff_getElem.1 hr
    obtain ⟨x, hxi, ⟨r1, r2, r3, i1, i2, i3, n1, n2, n3⟩, e0, e1, e2, e3, e4, e5, rfl, t1, t2, t3⟩ := he i hi
    unfold maxLen at n1 n2 n3
    have q1 := sl_size hsz t1 Try.underlying61 Try.by6 (fun k hk => cf_field ht hd (i := 4) rfl rfl k (ro_field (rest := rest) hxi (i := 2) rfl rfl k hk))
    have q2 := sl_size hsz t2 Try.underlying41 Try.by7 (fun k hk => cf_field ht hd (i := 4) rfl rfl k (ro_field (rest := rest) hxi (i := 3) rfl rfl k hk))
    have q3 := sl_size hsz t3 Try.underlying35 Try.by4 (fun k hk => cf_field ht hd (i := 4) rfl rfl k (ro_field (rest := rest) hxi (i := 4) rfl rfl k hk))
    exact ⟨r1, r2, r3, i1, i2, i3, q1, q2, q3, by omega, by omega, by omega⟩
end
end Go.Proofs.Ytbjbkaphigolnaa

namespace Go.Proofs.Ytbjbkaphigolnaa
open Go.RowKit

theorem bulk_pos {H : Type} (d : DataW H) : 1 ≤ Rows.uptoBulk d := by
  cases d with
  | lit l => cases l <;> simp [Rows.uptoBulk]
  | _ => simp [Rows.uptoBulk]
theorem bulk_len {H : Type} : ∀ es : List (DataW H), es.length ≤ Rows.uptoBulkAll es
  | [] => Nat.le_refl _
  | d :: r => by
    have ih := bulk_len r
    have h1 := bulk_pos d
    simp only [Rows.uptoBulkAll, List.length_cons]
    omega
theorem sl_small {H : Type} {d : DataW H} {n : Nat} (h : SL d n) : n ≤ Rows.uptoBulk d := by
  rcases h with ⟨_, rfl⟩ | ⟨es, rest, rfl, rfl⟩
  · exact Nat.zero_le _
  · have := bulk_len es
    simp only [Rows.uptoBulk]
    omega
/-- how many things a route holds -/
def Ro.total (r : Ro) : Nat := 1 + r.path.length + r.flank.length + r.over.length
def totalR : List Ro → Nat
  | [] => 0
  | r :: l => r.total + totalR l
/-- how many things a configuration holds -/
def Cm.total (C : Cm) : Nat := C.l.length + C.js.length + C.sg.length + C.cr.length + totalR C.rs
theorem ro_small {H : Type} {w : World} {r : Ro} {d : DataW H} (h : RoIn w r d) : r.total ≤ Rows.uptoBulk d := by
  obtain ⟨_, d0, d1, d2, d3, d4, d5, rfl, s2, s3, s4⟩ := h
  have a := sl_small s2
  have b := sl_small s3
  have c := sl_small s4
  unfold Ro.total
  simp only [Rows.uptoBulk, Rows.uptoBulkAll]
  omega
theorem ros_small {H : Type} {w : World} : ∀ (l : List Ro) (es : List (DataW H)), es.length = l.length → (∀ i (hi : i < l.length), ∃ x, es[i]? = some x ∧ RoIn w l[i] x) → totalR l ≤ Rows.uptoBulkAll es
  | [], _, _, _ => Nat.zero_le _
  | r :: l, [], hl, _ => by simp at hl
  | r :: l, e :: es, hl, h => by
    obtain ⟨x, hx, hr⟩ := h 0 (by simp)
    simp only [List.getElem?_cons_zero, Option.some.injEq] at hx
    subst hx
    have a := ro_small hr
    have b := ros_small l es (by simpa using hl) fun i hi => by
      obtain ⟨x, hx, hr⟩ := h (i + 1) (by simpa using hi)
      exact ⟨x, by simpa using hx, by simpa using hr⟩
    simp only [totalR, Rows.uptoBulkAll]
    simp only [List.getElem_cons_zero] at a
    omega
theorem totalR_mem : ∀ (l : List Ro) (r : Ro), r ∈ l → r.total ≤ totalR l
  | r :: l, q, h => by
    simp only [totalR]
    rcases List.mem_cons.1 h with rfl | h
    · omega
    · have := totalR_mem l q h
      omega
theorem totalR_len : ∀ l : List Ro, l.length ≤ totalR l
  | [] => Nat.le_refl _
  | r :: l => by
    have := totalR_len l
    simp only [totalR, List.length_cons, Ro.total]
    omega
theorem conf_total {H : Type} {w : World} {C : Cm} {d : DataW H} (h : CfIn w C d) : C.total ≤ Rows.uptoBulk d := by
  obtain ⟨d1, d2, d3, d4, d5, d6, rfl, s1, s2, s3, s4, s5⟩ := h.data
  have a1 := sl_small s1
  have a2 := sl_small s2
  have a3 := sl_small s3
  have a4 := sl_small s4
  have a5 : totalR C.rs ≤ Rows.uptoBulk d5 := by
    rcases s5 with ⟨_, e⟩ | ⟨es, rest, rfl, hl, he⟩
    · rw [e]; exact Nat.zero_le _
    · have := ros_small C.rs es hl he
      simp only [Rows.uptoBulk]
      omega
  unfold Cm.total
  simp only [Rows.uptoBulk, Rows.uptoBulkAll]
  omega
/-- what came in, of small bulk, is a configuration that the contracts take -/
theorem small_conf {H : Type} {w : World} {C : Cm} {d : DataW H} {ds : List (DataW H)} (hk : Rows.uptoSmall H (d :: ds) = true) (h : CfIn w C d) : C.Ok w ∧ C.total ≤ 1048576 := by
  have hk2 : Rows.uptoBulkAll (d :: ds) ≤ 1048576 := of_decide_eq_true hk
  simp only [Rows.uptoBulkAll] at hk2
  have ht := conf_total h
  have m1 := h.m1
  have m2 := h.m2
  have m3 := h.m3
  have m4 := h.m4
  have m5 := h.m5
  unfold maxLen at m1 m2 m3 m4 m5
  have hl := totalR_len C.rs
  have htt : C.total = C.l.length + C.js.length + C.sg.length + C.cr.length + totalR C.rs := rfl
  refine ⟨⟨h.secs, h.jos, h.sigs, h.crs, h.rts, fun r hr => ?_, h.l1, h.l2, h.l3, h.l4, h.l5, by omega, by omega, by omega, by omega, by omega, by omega, by omega, by omega, by omega, by omega⟩, by omega⟩
  have hrt := totalR_mem C.rs r hr
  have hre : r.total = 1 + r.path.length + r.flank.length + r.over.length := rfl
  obtain ⟨d1, d2, d3, d4, d5, d6, rfl, s1, s2, s3, s4, s5⟩ := h.data
  rcases s5 with ⟨_, e⟩ | ⟨es, rest, rfl, _, he⟩
  · rw [e] at hr; cases hr
  · obtain ⟨i, hi, rfl⟩ := List.mem_iff_getElem.1 hr
    obtain ⟨x, hxi, ⟨r1, r2, r3, i1, i2, i3, n1, n2, n3⟩, _⟩ := he i hi
    unfold maxLen at n1 n2 n3
    exact ⟨r1, r2, r3, i1, i2, i3, by omega, by omega, by omega, by omega, by omega, by omega⟩
end Go.Proofs.Ytbjbkaphigolnaa


/- Contracts and plain mathematics of earlier stages: Topen, Tconf, Ten, Tnums, Thas, Tnumt, Tshape. -/
import Derived.Test.YtfmhfngilimhjaaTb
import Derived.Test.YtfmhfngilimhjaaKa
import Derived.Deep.Slices
import Derived.Lib.SmallJoins
import Derived.SizedLaws
import Derived.Test.YtfmhfngilimhjaaTa
import Derived.Test.YtfmhfngilimhjaaTd
import Derived.Deep.RegionHeld3
namespace Go.Proofs.Ytfmhfngilimhjaa.Te
open Go.ChangeShapes Go.WideShapes Go.ChangeAt Go.RowKit Go.Deep Go.Joins

theorem Try.tcSh : Try.prog.cellsOf 33 = 4 := by kernel_rfl
theorem Try.tcSt : Try.prog.cellsOf 65 = 4 := by kernel_rfl
theorem Try.tcOr : Try.prog.cellsOf 73 = 3 := by kernel_rfl
theorem Try.tcBl : Try.prog.cellsOf 76 = 3 := by kernel_rfl
theorem Try.tcL : Try.prog.cellsOf 25 = 1 := by kernel_rfl
theorem Try.tby : Try.prog.bytesOf 3 = 8 := by kernel_rfl
/-- a list's length, as the reading tells it -/
def SL {H : Type} (d : DataW H) (n : Nat) : Prop := (d = .nil ∧ n = 0) ∨ ∃ es rest, d = .slice es rest ∧ es.length = n
/-- what is told, that is read -/
structure Tol where
  s : Sta
  o : Ods
  b : Bl
def Tol.cells (x : Tol) : List Value := x.s.cells ++ x.o.cells ++ [.int .i64 x.b.a, .int .i64 x.b.d, .int .i64 x.b.g]
def Tol.val (x : Tol) : Value := .agg x.cells.toArray

section
variable {H : Type} {enc : TypeId × Value → H} {w : World} {base : Nat}
theorem int_of {n : Nat} {c : Value} {y : DataW H × List MemPlace} (h : DataW.trod enc Try.prog w 0 (fun _ => true) true n 3 [c] = some y) : ∃ a : Int, c = .int .i64 a := by
  obtain ⟨a, e, _, _⟩ := DataW.trod_int Try.underlying3 h
  exact ⟨a, by injection e⟩
set_option maxRecDepth 100000 in
theorem l3_of {n : Nat} {v : Value} {y : DataW H × List MemPlace} (h : DataW.trod enc Try.prog w 0 (fun _ => true) true n 25 [v] = some y) :
    ∃ x : L3, v = .slice x.A x.l.length x.c ∧ Rd w x.A (x.l.map (Value.int .i64)) ∧ SL y.1 x.l.length := by
  rcases open_ints Try.underlying25 Try.underlying3 Try.cellInt h with ⟨hcs, hd⟩ | ⟨a, len, cap, zs, hcs, _, hl, hm, hz, hd, hcell, _⟩
  · exact ⟨⟨none, [], 0⟩, by simpa using hcs, (fun h => by simp at h), .inl ⟨by rw [hd], rfl⟩⟩
  · have hzc : zs.length = cap := by simpa using hz
    have hlen' : (zs.take len).length = len := by rw [List.length_take]; omega
    refine ⟨⟨some a, zs.take len, cap⟩, by rw [hlen']; simpa using hcs, rd_of fun i u hu => ?_, .inr ⟨lits .i64 (zs.take len), lits .i64 (zs.drop len), by rw [hd], by rw [lits_len]⟩⟩
    have hi : i < len := by
      have := (List.getElem?_eq_some_iff.1 hu).1
      rw [List.length_map, hlen'] at this
      exact this
    rw [hcell i (by omega)]
    rw [List.getElem?_map, List.getElem?_take, if_pos hi, List.getElem?_eq_getElem (by omega)] at hu
    simp only [Option.map_some, Option.some.injEq] at hu
    rw [← hu, List.getD_eq_getElem?_getD, List.getElem?_eq_getElem (by omega)]
    rfl
/-- a list that was read, but for its size -/
def L3.In (w : World) (x : L3) (d : DataW H) : Prop := Rd w x.A (x.l.map (Value.int .i64)) ∧ SL d x.l.length
set_option maxRecDepth 100000 in
theorem sta_of {n : Nat} {cs : List Value} {y : DataW H × List MemPlace} (h : DataW.trod enc Try.prog w 0 (fun _ => true) true n 65 cs = some y) :
    ∃ (x : Sta) (d0 d1 d2 d3 : DataW H), cs = x.cells ∧ y.1 = .agg [d0, d1, d2, d3] ∧ x.occ.In w d0 ∧ x.pos.In w d1 ∧ x.shut.In w d2 ∧ x.lamp.In w d3 := by
  obtain ⟨xs, m, _, hx, hlen, hxl, hf⟩ := DataW.trod_struct Try.underlying65 h
  rw [Try.tcSt] at hlen
  match cs, hlen with
  | [e0, e1, e2, e3], _ =>
    match xs, hxl with
    | [x0, x1, x2, x3], _ =>
      have h0 : DataW.trod enc Try.prog w 0 (fun _ => true) true m 25 (([e0, e1, e2, e3].drop 0).take (Try.prog.cellsOf 25)) = some x0 := hf 0 _ rfl
      have h1 : DataW.trod enc Try.prog w 0 (fun _ => true) true m 25 (([e0, e1, e2, e3].drop 1).take (Try.prog.cellsOf 25)) = some x1 := hf 1 _ rfl
      have h2 : DataW.trod enc Try.prog w 0 (fun _ => true) true m 25 (([e0, e1, e2, e3].drop 2).take (Try.prog.cellsOf 25)) = some x2 := hf 2 _ rfl
      have h3 : DataW.trod enc Try.prog w 0 (fun _ => true) true m 25 (([e0, e1, e2, e3].drop 3).take (Try.prog.cellsOf 25)) = some x3 := hf 3 _ rfl
      rw [Try.tcL] at h0 h1 h2 h3
      obtain ⟨a0, rfl, r0, s0⟩ := l3_of (show DataW.trod enc Try.prog w 0 (fun _ => true) true m 25 [e0] = some x0 from h0)
      obtain ⟨a1, rfl, r1, s1⟩ := l3_of (show DataW.trod enc Try.prog w 0 (fun _ => true) true m 25 [e1] = some x1 from h1)
      obtain ⟨a2, rfl, r2, s2⟩ := l3_of (show DataW.trod enc Try.prog w 0 (fun _ => true) true m 25 [e2] = some x2 from h2)
      obtain ⟨a3, rfl, r3, s3⟩ := l3_of (show DataW.trod enc Try.prog w 0 (fun _ => true) true m 25 [e3] = some x3 from h3)
      exact ⟨⟨a0, a1, a2, a3⟩, x0.1, x1.1, x2.1, x3.1, rfl, by rw [hx]; rfl, ⟨r0, s0⟩, ⟨r1, s1⟩, ⟨r2, s2⟩, ⟨r3, s3⟩⟩
set_option maxRecDepth 100000 in
theorem sha_of {n : Nat} {cs : List Value} {y : DataW H × List MemPlace} (h : DataW.trod enc Try.prog w 0 (fun _ => true) true n 33 cs = some y) :
    ∃ (x : Sta) (d0 d1 d2 d3 : DataW H), cs = x.cells ∧ y.1 = .agg [d0, d1, d2, d3] ∧ x.occ.In w d0 ∧ x.pos.In w d1 ∧ x.shut.In w d2 ∧ x.lamp.In w d3 := by
  obtain ⟨xs, m, _, hx, hlen, hxl, hf⟩ := DataW.trod_struct Try.underlying33 h
  rw [Try.tcSh] at hlen
  match cs, hlen with
  | [e0, e1, e2, e3], _ =>
    match xs, hxl with
    | [x0, x1, x2, x3], _ =>
      have h0 : DataW.trod enc Try.prog w 0 (fun _ => true) true m 25 (([e0, e1, e2, e3].drop 0).take (Try.prog.cellsOf 25)) = some x0 := hf 0 _ rfl
      have h1 : DataW.trod enc Try.prog w 0 (fun _ => true) true m 25 (([e0, e1, e2, e3].drop 1).take (Try.prog.cellsOf 25)) = some x1 := hf 1 _ rfl
      have h2 : DataW.trod enc Try.prog w 0 (fun _ => true) true m 25 (([e0, e1, e2, e3].drop 2).take (Try.prog.cellsOf 25)) = some x2 := hf 2 _ rfl
      have h3 : DataW.trod enc Try.prog w 0 (fun _ => true) true m 25 (([e0, e1, e2, e3].drop 3).take (Try.prog.cellsOf 25)) = some x3 := hf 3 _ rfl
      rw [Try.tcL] at h0 h1 h2 h3
      obtain ⟨a0, rfl, r0, s0⟩ := l3_of (show DataW.trod enc Try.prog w 0 (fun _ => true) true m 25 [e0] = some x0 from h0)
      obtain ⟨a1, rfl, r1, s1⟩ := l3_of (show DataW.trod enc Try.prog w 0 (fun _ => true) true m 25 [e1] = some x1 from h1)
      obtain ⟨a2, rfl, r2, s2⟩ := l3_of (show DataW.trod enc Try.prog w 0 (fun _ => true) true m 25 [e2] = some x2 from h2)
      obtain ⟨a3, rfl, r3, s3⟩ := l3_of (show DataW.trod enc Try.prog w 0 (fun _ => true) true m 25 [e3] = some x3 from h3)
      exact ⟨⟨a0, a1, a2, a3⟩, x0.1, x1.1, x2.1, x3.1, rfl, by rw [hx]; rfl, ⟨r0, s0⟩, ⟨r1, s1⟩, ⟨r2, s2⟩, ⟨r3, s3⟩⟩
set_option maxRecDepth 100000 in
theorem ods_of {n : Nat} {cs : List Value} {y : DataW H × List MemPlace} (h : DataW.trod enc Try.prog w 0 (fun _ => true) true n 73 cs = some y) :
    ∃ (x : Ods) (d0 d1 d2 : DataW H), cs = x.cells ∧ y.1 = .agg [d0, d1, d2] ∧ x.pos.In w d0 ∧ x.asp.In w d1 ∧ x.shut.In w d2 := by
  obtain ⟨xs, m, _, hx, hlen, hxl, hf⟩ := DataW.trod_struct Try.underlying73 h
  rw [Try.tcOr] at hlen
  match cs, hlen with
  | [e0, e1, e2], _ =>
    match xs, hxl with
    | [x0, x1, x2], _ =>
      have h0 : DataW.trod enc Try.prog w 0 (fun _ => true) true m 25 (([e0, e1, e2].drop 0).take (Try.prog.cellsOf 25)) = some x0 := hf 0 _ rfl
      have h1 : DataW.trod enc Try.prog w 0 (fun _ => true) true m 25 (([e0, e1, e2].drop 1).take (Try.prog.cellsOf 25)) = some x1 := hf 1 _ rfl
      have h2 : DataW.trod enc Try.prog w 0 (fun _ => true) true m 25 (([e0, e1, e2].drop 2).take (Try.prog.cellsOf 25)) = some x2 := hf 2 _ rfl
      rw [Try.tcL] at h0 h1 h2
      obtain ⟨a0, rfl, r0, s0⟩ := l3_of (show DataW.trod enc Try.prog w 0 (fun _ => true) true m 25 [e0] = some x0 from h0)
      obtain ⟨a1, rfl, r1, s1⟩ := l3_of (show DataW.trod enc Try.prog w 0 (fun _ => true) true m 25 [e1] = some x1 from h1)
      obtain ⟨a2, rfl, r2, s2⟩ := l3_of (show DataW.trod enc Try.prog w 0 (fun _ => true) true m 25 [e2] = some x2 from h2)
      exact ⟨⟨a0, a1, a2⟩, x0.1, x1.1, x2.1, rfl, by rw [hx]; rfl, ⟨r0, s0⟩, ⟨r1, s1⟩, ⟨r2, s2⟩⟩
set_option maxRecDepth 100000 in
theorem bl_of {n : Nat} {cs : List Value} {y : DataW H × List MemPlace} (h : DataW.trod enc Try.prog w 0 (fun _ => true) true n 76 cs = some y) : ∃ x : Bl, cs = [.int .i64 x.a, .int .i64 x.d, .int .i64 x.g] := by
  obtain ⟨xs, m, _, hx, hlen, hxl, hf⟩ := DataW.trod_struct Try.underlying76 h
  rw [Try.tcBl] at hlen
  match cs, hlen with
  | [c0, c1, c2], _ =>
    match xs, hxl with
    | [x0, x1, x2], _ =>
      have h0 : DataW.trod enc Try.prog w 0 (fun _ => true) true m 3 (([c0, c1, c2].drop 0).take (Try.prog.cellsOf 3)) = some x0 := hf 0 _ rfl
      have h1 : DataW.trod enc Try.prog w 0 (fun _ => true) true m 3 (([c0, c1, c2].drop 1).take (Try.prog.cellsOf 3)) = some x1 := hf 1 _ rfl
      have h2 : DataW.trod enc Try.prog w 0 (fun _ => true) true m 3 (([c0, c1, c2].drop 2).take (Try.prog.cellsOf 3)) = some x2 := hf 2 _ rfl
      rw [Try.cellInt] at h0 h1 h2
      obtain ⟨a, rfl⟩ := int_of (show DataW.trod enc Try.prog w 0 (fun _ => true) true m 3 [c0] = some x0 from h0)
      obtain ⟨b, rfl⟩ := int_of (show DataW.trod enc Try.prog w 0 (fun _ => true) true m 3 [c1] = some x1 from h1)
      obtain ⟨c, rfl⟩ := int_of (show DataW.trod enc Try.prog w 0 (fun _ => true) true m 3 [c2] = some x2 from h2)
      exact ⟨⟨a, b, c⟩, rfl⟩
/-- a shape that came in -/
structure ShIn (w : World) (x : Sta) (d : DataW H) : Prop where
  data : ∃ d0 d1 d2 d3, d = .agg [d0, d1, d2, d3] ∧ x.occ.In w d0 ∧ x.pos.In w d1 ∧ x.shut.In w d2 ∧ x.lamp.In w d3
structure ToIn (w : World) (x : Tol) (d : DataW H) : Prop where
  data : ∃ ds d0 d1 d2 d3 e0 e1 e2, d = .agg [.agg [d0, d1, d2, d3], .agg [e0, e1, e2], ds] ∧ x.s.occ.In w d0 ∧ x.s.pos.In w d1 ∧ x.s.shut.In w d2 ∧ x.s.lamp.In w d3 ∧ x.o.pos.In w e0 ∧ x.o.asp.In w e1 ∧ x.o.shut.In w e2
set_option maxRecDepth 100000 in
theorem open_shape {v : Value} {d : DataW H} {ps : List MemPlace} (hv : Value.okWide Try.prog w .any base 33 v) (h : DataW.Trod enc Try.prog w 0 (fun _ => true) true 33 v d ps) : ∃ x : Sta, v = x.val ∧ ShIn w x d := by
  simp only [Value.okWide, Try.underlying33] at hv
  obtain ⟨cs, rfl, hcs, _⟩ := hv
  obtain ⟨fuel, hf0⟩ := h
  obtain ⟨l⟩ := cs
  obtain ⟨x, d0, d1, d2, d3, hl, hd, i0, i1, i2, i3⟩ := sha_of hf0
  have hl' : l = x.cells := hl
  subst hl'
  exact ⟨x, rfl, ⟨d0, d1, d2, d3, hd, i0, i1, i2, i3⟩⟩
end
section
variable {H : Type}
theorem sl_weight {d : DataW H} {n b : Nat} {t e : TypeId} (s : SL d n) (ht : Try.prog.underlying t = some (.slice e)) (hb : Try.prog.bytesOf e = b) : n = 0 ∨ ∃ k, k ∈ d.weights Try.prog t ∧ n * b ≤ k := by
  rcases s with ⟨_, h⟩ | ⟨es, rest, rfl, h⟩
  · exact .inl h
  · refine .inr ⟨(es.length + rest.length) * b, ?_, ?_⟩
    · simp only [DataW.weights, ht, hb]
      simp
    · rw [← h]
      exact Nat.mul_le_mul_right _ (Nat.le_add_right _ _)
/-- a list of what came in is of the size that the contracts take -/
theorem in_ok {w : World} {x : L3} {d : DataW H} {ts : List TypeId} {ds : List (DataW H)} (h : x.In w d) (hsz : (DataW.weightsEach Try.prog ts ds).all (· ≤ reachBytes) = true) (hin : ∀ k, k ∈ d.weights Try.prog 25 → k ∈ DataW.weightsEach Try.prog ts ds) : x.Ok w := by
  have hl : x.l.length ≤ 17592186044416 := by
    rcases sl_weight h.2 Try.underlying25 Try.tby with h | ⟨k, hk, hle⟩
    · rw [h]; omega
    · have := List.all_eq_true.1 hsz _ (hin k hk)
      simp only [decide_eq_true_eq] at this
      unfold reachBytes at this
      omega
  refine ⟨h.1, hl, fun h0 k hk => ?_⟩
  obtain ⟨b, o, hA, hb, _⟩ := h.1 (by rw [List.length_map]; exact h0)
  rw [hA] at hk
  have : b = k := by injection hk
  omega
theorem sh_ok {w : World} {x : Sta} {d : DataW H} {ts : List TypeId} {ds : List (DataW H)} {j : Nat} (h : ShIn w x d) (hsz : (DataW.weightsEach Try.prog ts ds).all (· ≤ reachBytes) = true) (ht : ts[j]? = some 33) (hd : ds[j]? = some d) : x.Ok w := by
  obtain ⟨d0, d1, d2, d3, rfl, i0, i1, i2, i3⟩ := h.data
  have f : ∀ (i : Nat) (di : DataW H), [d0, d1, d2, d3][i]? = some di → [25, 25, 25, 25][i]? = some 25 → ∀ k, k ∈ di.weights Try.prog 25 → k ∈ DataW.weightsEach Try.prog ts ds := fun i di h1 h2 k hk => by
    refine DataW.weights_mem_each ht hd _ ?_
    simp only [DataW.weights, Try.underlying33]
    exact DataW.weights_mem_each h2 h1 _ hk
  exact ⟨in_ok i0 hsz (f 0 _ rfl rfl), in_ok i1 hsz (f 1 _ rfl rfl), in_ok i2 hsz (f 2 _ rfl rfl), in_ok i3 hsz (f 3 _ rfl rfl)⟩
end
/-- a shape whose lists are read is one whose sizes are asked -/
def Sta.sh (x : Sta) : Sh := ⟨⟨x.occ.A, x.occ.l.length, x.occ.c⟩, ⟨x.pos.A, x.pos.l.length, x.pos.c⟩, ⟨x.shut.A, x.shut.l.length, x.shut.c⟩, ⟨x.lamp.A, x.lamp.l.length, x.lamp.c⟩⟩
theorem Sta.Ok.sh {w : World} {x : Sta} (h : x.Ok w) : x.sh.Ok := ⟨h.occ.le, h.pos.le, h.shut.le, h.lamp.le⟩
end Go.Proofs.Ytfmhfngilimhjaa.Te

namespace Go.Proofs.Ytfmhfngilimhjaa.Te
open Go.ChangeShapes Go.WideShapes Go.ChangeAt Go.RowKit Go.Deep Go.Joins

structure Sec where
  kind : Int
  oc : Int
  line : Int
instance : Inhabited Sec := ⟨⟨0, 0, 0⟩⟩
structure Sg where
  sec : Int
  fin : Int
instance : Inhabited Sg := ⟨⟨0, 0⟩⟩
structure Tm where
  age : Int
  brake : Int
  hold : Int
  budget : Int
def cellsS (l : List Sec) : List Value := l.flatMap fun s => [.int .i64 s.kind, .int .i64 s.oc, .int .i64 s.line]
def cellsG (l : List Sg) : List Value := l.flatMap fun s => [.int .i64 s.sec, .int .i64 s.fin]
theorem cellsS_at {l : List Sec} {j : Nat} (h : j < l.length) : (cellsS l)[j * 3]? = some (.int .i64 l[j].kind) ∧ (cellsS l)[j * 3 + 1]? = some (.int .i64 l[j].oc) ∧ (cellsS l)[j * 3 + 2]? = some (.int .i64 l[j].line) := by
  induction l generalizing j with
  | nil => simp at h
  | cons v r ih =>
    have e : cellsS (v :: r) = [.int .i64 v.kind, .int .i64 v.oc, .int .i64 v.line] ++ cellsS r := rfl
    rcases j with _ | j
    · rw [e]; simp
    · have := ih (j := j) (by simpa using h)
      rw [e, show (j + 1) * 3 = 3 + j * 3 by omega, show 3 + j * 3 + 1 = 3 + (j * 3 + 1) by omega, show 3 + j * 3 + 2 = 3 + (j * 3 + 2) by omega]
      rw [List.getElem?_append_right (by simp), List.getElem?_append_right (by simp), List.getElem?_append_right (by simp)]
      simpa using this
theorem cellsG_at {l : List Sg} {j : Nat} (h : j < l.length) : (cellsG l)[j * 2]? = some (.int .i64 l[j].sec) ∧ (cellsG l)[j * 2 + 1]? = some (.int .i64 l[j].fin) := by
  induction l generalizing j with
  | nil => simp at h
  | cons v r ih =>
    have e : cellsG (v :: r) = [.int .i64 v.sec, .int .i64 v.fin] ++ cellsG r := rfl
    rcases j with _ | j
    · rw [e]; simp
    · have := ih (j := j) (by simpa using h)
      rw [e, show (j + 1) * 2 = 2 + j * 2 by omega, show 2 + j * 2 + 1 = 2 + (j * 2 + 1) by omega]
      rw [List.getElem?_append_right (by simp), List.getElem?_append_right (by simp)]
      simpa using this
theorem rd_sec {w : World} {A : Option Addr} {l : List Sec} (h : Rd w A (cellsS l)) {j : Nat} (hj : j < l.length) : ∃ g o, A = some ⟨g, o, none⟩ ∧ g < w.heap.size ∧ w.cell? ⟨g, o + j * 3, none⟩ = some (.int .i64 l[j].kind) ∧ w.cell? ⟨g, o + j * 3 + 1, none⟩ = some (.int .i64 l[j].oc) ∧ w.cell? ⟨g, o + j * 3 + 2, none⟩ = some (.int .i64 l[j].line) := by
  obtain ⟨h0, h1, h2⟩ := cellsS_at hj
  obtain ⟨g, o, rfl, hg, hc⟩ := h (by have := (List.getElem?_eq_some_iff.1 h0).1; omega)
  exact ⟨g, o, rfl, hg, hc _ _ h0, hc _ _ h1, hc _ _ h2⟩
theorem rd_sg {w : World} {A : Option Addr} {l : List Sg} (h : Rd w A (cellsG l)) {j : Nat} (hj : j < l.length) : ∃ g o, A = some ⟨g, o, none⟩ ∧ g < w.heap.size ∧ w.cell? ⟨g, o + j * 2, none⟩ = some (.int .i64 l[j].sec) ∧ w.cell? ⟨g, o + j * 2 + 1, none⟩ = some (.int .i64 l[j].fin) := by
  obtain ⟨h0, h1⟩ := cellsG_at hj
  obtain ⟨g, o, rfl, hg, hc⟩ := h (by have := (List.getElem?_eq_some_iff.1 h0).1; omega)
  exact ⟨g, o, rfl, hg, hc _ _ h0, hc _ _ h1⟩
/-- a configuration that is read -/
structure Cf where
  A1 : Option Addr
  c1 : Nat
  l : List Sec
  A2 : Option Addr
  n2 : Nat
  c2 : Nat
  A3 : Option Addr
  c3 : Nat
  sg : List Sg
  A4 : Option Addr
  c4 : Nat
  cr : List Int
  A5 : Option Addr
  n5 : Nat
  c5 : Nat
  t : Tm
def Cf.cells (C : Cf) : List Value := [.slice C.A1 C.l.length C.c1, .slice C.A2 C.n2 C.c2, .slice C.A3 C.sg.length C.c3, .slice C.A4 C.cr.length C.c4, .slice C.A5 C.n5 C.c5, .int .i64 C.t.age, .int .i64 C.t.brake, .int .i64 C.t.hold, .int .i64 C.t.budget]
def Cf.val (C : Cf) : Value := .agg C.cells.toArray
structure Cf.Ok (w : World) (C : Cf) : Prop where
  secs : Rd w C.A1 (cellsS C.l)
  sigs : Rd w C.A3 (cellsG C.sg)
  crs : Rd w C.A4 (C.cr.map (Value.int .i64))
  b1 : C.l.length ≤ 17592186044416
  b3 : C.sg.length ≤ 17592186044416
  b4 : C.cr.length ≤ 17592186044416
theorem Cf.Ok.fr {w w1 : World} {C : Cf} (h : C.Ok w) (f : Fr (fun _ => False) w w1) : C.Ok w1 :=
  { h with secs := h.secs.fr f fun _ _ => id, sigs := h.sigs.fr f fun _ _ => id, crs := h.crs.fr f fun _ _ => id }

theorem Try.tcSec : Try.prog.cellsOf 38 = 3 := by kernel_rfl
theorem Try.tcSg : Try.prog.cellsOf 40 = 2 := by kernel_rfl
theorem Try.tcTm : Try.prog.cellsOf 28 = 4 := by kernel_rfl
theorem Try.tcCf : Try.prog.cellsOf 30 = 9 := by kernel_rfl
theorem Try.tcK1 : Try.prog.cellsOf 22 = 1 := by kernel_rfl
theorem Try.tcK2 : Try.prog.cellsOf 23 = 1 := by kernel_rfl
theorem Try.tcK3 : Try.prog.cellsOf 24 = 1 := by kernel_rfl
theorem Try.tcK5 : Try.prog.cellsOf 26 = 1 := by kernel_rfl
theorem Try.tbS : Try.prog.bytesOf 38 = 24 := by kernel_rfl
theorem Try.tbG : Try.prog.bytesOf 40 = 16 := by kernel_rfl
section
variable {H : Type} {enc : TypeId × Value → H} {w : World} {base : Nat}
set_option maxRecDepth 100000 in
theorem sec_of {n : Nat} {cs : List Value} {y : DataW H × List MemPlace} (h : DataW.trod enc Try.prog w 0 (fun _ => true) true n 38 cs = some y) : ∃ s : Sec, cs = [.int .i64 s.kind, .int .i64 s.oc, .int .i64 s.line] := by
  obtain ⟨xs, m, _, hx, hlen, hxl, hf⟩ := DataW.trod_struct Try.underlying38 h
  rw [Try.tcSec] at hlen
  match cs, hlen with
  | [c0, c1, c2], _ =>
    match xs, hxl with
    | [x0, x1, x2], _ =>
      have h0 : DataW.trod enc Try.prog w 0 (fun _ => true) true m 3 (([c0, c1, c2].drop 0).take (Try.prog.cellsOf 3)) = some x0 := hf 0 _ rfl
      have h1 : DataW.trod enc Try.prog w 0 (fun _ => true) true m 3 (([c0, c1, c2].drop 1).take (Try.prog.cellsOf 3)) = some x1 := hf 1 _ rfl
      have h2 : DataW.trod enc Try.prog w 0 (fun _ => true) true m 3 (([c0, c1, c2].drop 2).take (Try.prog.cellsOf 3)) = some x2 := hf 2 _ rfl
      rw [Try.cellInt] at h0 h1 h2
      obtain ⟨a, rfl⟩ := int_of (show DataW.trod enc Try.prog w 0 (fun _ => true) true m 3 [c0] = some x0 from h0)
      obtain ⟨b, rfl⟩ := int_of (show DataW.trod enc Try.prog w 0 (fun _ => true) true m 3 [c1] = some x1 from h1)
      obtain ⟨c, rfl⟩ := int_of (show DataW.trod enc Try.prog w 0 (fun _ => true) true m 3 [c2] = some x2 from h2)
      exact ⟨⟨a, b, c⟩, rfl⟩
set_option maxRecDepth 100000 in
theorem sg_of {n : Nat} {cs : List Value} {y : DataW H × List MemPlace} (h : DataW.trod enc Try.prog w 0 (fun _ => true) true n 40 cs = some y) : ∃ s : Sg, cs = [.int .i64 s.sec, .int .i64 s.fin] := by
  obtain ⟨xs, m, _, hx, hlen, hxl, hf⟩ := DataW.trod_struct Try.underlying40 h
  rw [Try.tcSg] at hlen
  match cs, hlen with
  | [c0, c1], _ =>
    match xs, hxl with
    | [x0, x1], _ =>
      have h0 : DataW.trod enc Try.prog w 0 (fun _ => true) true m 3 (([c0, c1].drop 0).take (Try.prog.cellsOf 3)) = some x0 := hf 0 _ rfl
      have h1 : DataW.trod enc Try.prog w 0 (fun _ => true) true m 3 (([c0, c1].drop 1).take (Try.prog.cellsOf 3)) = some x1 := hf 1 _ rfl
      rw [Try.cellInt] at h0 h1
      obtain ⟨a0, rfl⟩ := int_of (show DataW.trod enc Try.prog w 0 (fun _ => true) true m 3 [c0] = some x0 from h0)
      obtain ⟨a1, rfl⟩ := int_of (show DataW.trod enc Try.prog w 0 (fun _ => true) true m 3 [c1] = some x1 from h1)
      exact ⟨⟨a0, a1⟩, rfl⟩
set_option maxRecDepth 100000 in
theorem tm_of {n : Nat} {cs : List Value} {y : DataW H × List MemPlace} (h : DataW.trod enc Try.prog w 0 (fun _ => true) true n 28 cs = some y) : ∃ s : Tm, cs = [.int .i64 s.age, .int .i64 s.brake, .int .i64 s.hold, .int .i64 s.budget] := by
  obtain ⟨xs, m, _, hx, hlen, hxl, hf⟩ := DataW.trod_struct Try.underlying28 h
  rw [Try.tcTm] at hlen
  match cs, hlen with
  | [c0, c1, c2, c3], _ =>
    match xs, hxl with
    | [x0, x1, x2, x3], _ =>
      have h0 : DataW.trod enc Try.prog w 0 (fun _ => true) true m 3 (([c0, c1, c2, c3].drop 0).take (Try.prog.cellsOf 3)) = some x0 := hf 0 _ rfl
      have h1 : DataW.trod enc Try.prog w 0 (fun _ => true) true m 3 (([c0, c1, c2, c3].drop 1).take (Try.prog.cellsOf 3)) = some x1 := hf 1 _ rfl
      have h2 : DataW.trod enc Try.prog w 0 (fun _ => true) true m 3 (([c0, c1, c2, c3].drop 2).take (Try.prog.cellsOf 3)) = some x2 := hf 2 _ rfl
      have h3 : DataW.trod enc Try.prog w 0 (fun _ => true) true m 3 (([c0, c1, c2, c3].drop 3).take (Try.prog.cellsOf 3)) = some x3 := hf 3 _ rfl
      rw [Try.cellInt] at h0 h1 h2 h3
      obtain ⟨a0, rfl⟩ := int_of (show DataW.trod enc Try.prog w 0 (fun _ => true) true m 3 [c0] = some x0 from h0)
      obtain ⟨a1, rfl⟩ := int_of (show DataW.trod enc Try.prog w 0 (fun _ => true) true m 3 [c1] = some x1 from h1)
      obtain ⟨a2, rfl⟩ := int_of (show DataW.trod enc Try.prog w 0 (fun _ => true) true m 3 [c2] = some x2 from h2)
      obtain ⟨a3, rfl⟩ := int_of (show DataW.trod enc Try.prog w 0 (fun _ => true) true m 3 [c3] = some x3 from h3)
      exact ⟨⟨a0, a1, a2, a3⟩, rfl⟩
theorem exists_fun {α : Type} [Inhabited α] {m : Nat} {Q : Nat → α → Prop} (h : ∀ i, i < m → ∃ a, Q i a) : ∃ f : Nat → α, ∀ i, i < m → Q i (f i) := by
  classical
  refine ⟨fun i => if hi : i < m then (h i hi).choose else default, fun i hi => ?_⟩
  simp only [hi, dif_pos]
  exact (h i hi).choose_spec
/-- a flat list of cells, place by place -/
theorem flat_at {α : Type} (g : α → List Value) (size : Nat) (hg : ∀ a, (g a).length = size) : ∀ (l : List α) (j : Nat) (u : Value), (l.flatMap g)[j]? = some u → ∃ i k, j = i * size + k ∧ k < size ∧ ∃ h : i < l.length, (g l[i])[k]? = some u
  | [], j, u, h => by simp at h
  | a :: r, j, u, h => by
    rw [List.flatMap_cons] at h
    by_cases hj : j < size
    · rw [List.getElem?_append_left (by rw [hg]; exact hj)] at h
      exact ⟨0, j, by omega, hj, by simp, h⟩
    · rw [List.getElem?_append_right (by rw [hg]; omega), hg] at h
      obtain ⟨i, k, e, hk, hi, hu⟩ := flat_at g size hg r (j - size) u h
      exact ⟨i + 1, k, by rw [Nat.add_mul]; omega, hk, by simpa using hi, by simpa using hu⟩
set_option maxRecDepth 100000 in
/-- A slice of structs that came in: read as a flat row. -/
theorem open_flatQ {α : Type} [Inhabited α] {t e : TypeId} (Q : α → DataW H → Prop) {n : Nat} {v : Value} {y : DataW H × List MemPlace} (size : Nat) (g : α → List Value) (hg : ∀ a, (g a).length = size) (ht : Try.prog.underlying t = some (.slice e)) (hc : Try.prog.cellsOf e = size)
    (hof : ∀ (n : Nat) (cs : List Value) (y : DataW H × List MemPlace), DataW.trod enc Try.prog w 0 (fun _ => true) true n e cs = some y → ∃ a : α, cs = g a ∧ Q a y.1) (h : DataW.trod enc Try.prog w 0 (fun _ => true) true n t [v] = some y) :
    ∃ (A : Option Addr) (c : Nat) (l : List α), v = .slice A l.length c ∧ Rd w A (l.flatMap g) ∧ l.length ≤ c ∧ c ≤ maxLen ∧ ((y.1 = .nil ∧ l = []) ∨ ∃ es rest, y.1 = .slice es rest ∧ es.length = l.length ∧ ∀ i (hi : i < l.length), ∃ x, es[i]? = some x ∧ Q l[i] x) := by
  rcases open_slice ht h with ⟨hcs, hx⟩ | ⟨a, len, cap, m, n', D, Pl, hcs, hb, hl, hm, hmm, hx, hi⟩
  · simp only [List.cons.injEq, and_true] at hcs
    exact ⟨none, 0, [], hcs, fun h => by simp at h, Nat.zero_le _, Nat.zero_le _, .inl ⟨by rw [hx], rfl⟩⟩
  · simp only [List.cons.injEq, and_true] at hcs
    have hmc : m = cap := by simpa using hmm
    subst hmc
    rw [hc] at hi
    have hq : ∀ i, i < len → ∃ x : α, (∀ j, j < size → w.cell? ((a.add (i * size)).add j) = (g x)[j]?) ∧ Q x (D i) := by
      intro i hil
      obtain ⟨cs', hc', ht'⟩ := hi i (by omega)
      obtain ⟨x, rfl, hQ⟩ := hof _ _ _ ht'
      exact ⟨x, (World.cells?_some hc').2.2, hQ⟩
    obtain ⟨f, hfn⟩ := exists_fun hq
    refine ⟨some a, m, (List.range len).map f, by simp [hcs], rd_of fun j u hu => ?_, by simpa using hl, hm, .inr ⟨_, _, by rw [hx], by simp, fun i hi' => ?_⟩⟩
    · obtain ⟨i, k, rfl, hk, hil, hu⟩ := flat_at g size hg _ j u hu
      have hil' : i < len := by simpa using hil
      have := (hfn i hil').1 k hk
      rw [← Go.Deep.add_add, this]
      simpa using hu
    · have hil : i < len := by simpa using hi'
      refine ⟨D i, by simp [hil], ?_⟩
      simp only [List.getElem_map, List.getElem_range]
      exact (hfn i hil).2
set_option maxRecDepth 100000 in
theorem slice_of {t e : TypeId} {n : Nat} {v : Value} {y : DataW H × List MemPlace} (ht : Try.prog.underlying t = some (.slice e)) (h : DataW.trod enc Try.prog w 0 (fun _ => true) true n t [v] = some y) : ∃ A n c, v = .slice A n c := by
  rcases open_slice ht h with ⟨hcs, hx⟩ | ⟨a, len, cap, m, n', D, Pl, hcs, _⟩
  · exact ⟨_, _, _, by simpa using hcs⟩
  · exact ⟨_, _, _, by simpa using hcs⟩
structure CfIn (w : World) (C : Cf) (d : DataW H) : Prop where
  secs : Rd w C.A1 (cellsS C.l)
  sigs : Rd w C.A3 (cellsG C.sg)
  crs : Rd w C.A4 (C.cr.map (Value.int .i64))
  data : ∃ d1 d2 d3 d4 d5 d6, d = .agg [d1, d2, d3, d4, d5, d6] ∧ SL d1 C.l.length ∧ SL d3 C.sg.length ∧ SL d4 C.cr.length
theorem sl_of {α : Type} {d : DataW H} {l : List α} {Q : Nat → DataW H → Prop} (s : (d = .nil ∧ l = []) ∨ ∃ es rest, d = .slice es rest ∧ es.length = l.length ∧ ∀ i (_ : i < l.length), ∃ x, es[i]? = some x ∧ Q i x) : SL d l.length := by
  rcases s with ⟨a, b⟩ | ⟨es, rest, a, b, _⟩
  · exact .inl ⟨a, by rw [b]; rfl⟩
  · exact .inr ⟨es, rest, a, b⟩
set_option maxRecDepth 100000 in
set_option maxHeartbeats 1000000 in
theorem open_conf {v : Value} {d : DataW H} {ps : List MemPlace} (hv : Value.okWide Try.prog w .any base 30 v) (h : DataW.Trod enc Try.prog w 0 (fun _ => true) true 30 v d ps) : ∃ C : Cf, v = C.val ∧ CfIn w C d := by
  simp only [Value.okWide, Try.underlying30] at hv
  obtain ⟨cs, rfl, hcs, _⟩ := hv
  obtain ⟨fuel, hf0⟩ := h
  obtain ⟨l⟩ := cs
  obtain ⟨xs, m, _, hx, hlen, hxl, hf⟩ := DataW.trod_struct Try.underlying30 hf0
  rw [Try.tcCf] at hlen
  match l, hlen with
  | [e0, e1, e2, e3, e4, e5, e6, e7, e8], _ =>
    match xs, hxl with
    | [x0, x1, x2, x3, x4, x5], _ =>
      have h0 : DataW.trod enc Try.prog w 0 (fun _ => true) true m 22 (([e0, e1, e2, e3, e4, e5, e6, e7, e8].drop 0).take (Try.prog.cellsOf 22)) = some x0 := hf 0 _ rfl
      rw [Try.tcK1] at h0
      have h1 : DataW.trod enc Try.prog w 0 (fun _ => true) true m 23 (([e0, e1, e2, e3, e4, e5, e6, e7, e8].drop 1).take (Try.prog.cellsOf 23)) = some x1 := hf 1 _ rfl
      rw [Try.tcK2] at h1
      have h2 : DataW.trod enc Try.prog w 0 (fun _ => true) true m 24 (([e0, e1, e2, e3, e4, e5, e6, e7, e8].drop 2).take (Try.prog.cellsOf 24)) = some x2 := hf 2 _ rfl
      rw [Try.tcK3] at h2
      have h3 : DataW.trod enc Try.prog w 0 (fun _ => true) true m 25 (([e0, e1, e2, e3, e4, e5, e6, e7, e8].drop 3).take (Try.prog.cellsOf 25)) = some x3 := hf 3 _ rfl
      rw [Try.tcL] at h3
      have h4 : DataW.trod enc Try.prog w 0 (fun _ => true) true m 26 (([e0, e1, e2, e3, e4, e5, e6, e7, e8].drop 4).take (Try.prog.cellsOf 26)) = some x4 := hf 4 _ rfl
      rw [Try.tcK5] at h4
      have h5 : DataW.trod enc Try.prog w 0 (fun _ => true) true m 28 (([e0, e1, e2, e3, e4, e5, e6, e7, e8].drop 5).take (Try.prog.cellsOf 28)) = some x5 := hf 5 _ rfl
      rw [Try.tcTm] at h5
      obtain ⟨A1, k1, l1, rfl, r1, _, _, s1⟩ := open_flatQ (fun _ _ => True) 3 (fun s : Sec => [.int .i64 s.kind, .int .i64 s.oc, .int .i64 s.line]) (fun _ => rfl) Try.underlying22 Try.tcSec (fun _ _ _ h => by obtain ⟨a, e⟩ := sec_of h; exact ⟨a, e, trivial⟩) (show DataW.trod enc Try.prog w 0 (fun _ => true) true m 22 [e0] = some x0 from h0)
      obtain ⟨A2, n2, k2, rfl⟩ := slice_of Try.underlying23 (show DataW.trod enc Try.prog w 0 (fun _ => true) true m 23 [e1] = some x1 from h1)
      obtain ⟨A3, k3, l3, rfl, r3, _, _, s3⟩ := open_flatQ (fun _ _ => True) 2 (fun s : Sg => [.int .i64 s.sec, .int .i64 s.fin]) (fun _ => rfl) Try.underlying24 Try.tcSg (fun _ _ _ h => by obtain ⟨a, e⟩ := sg_of h; exact ⟨a, e, trivial⟩) (show DataW.trod enc Try.prog w 0 (fun _ => true) true m 24 [e2] = some x2 from h2)
      obtain ⟨⟨A4, l4, k4⟩, rfl, r4, s4⟩ := l3_of (show DataW.trod enc Try.prog w 0 (fun _ => true) true m 25 [e3] = some x3 from h3)
      obtain ⟨A5, n5, k5, rfl⟩ := slice_of Try.underlying26 (show DataW.trod enc Try.prog w 0 (fun _ => true) true m 26 [e4] = some x4 from h4)
      obtain ⟨t, et⟩ := tm_of (show DataW.trod enc Try.prog w 0 (fun _ => true) true m 28 [e5, e6, e7, e8] = some x5 from h5)
      injection et with t0 et
      injection et with t1 et
      injection et with t2 et
      injection et with t3 _
      subst t0 t1 t2 t3
      have hd : d = .agg [x0.1, x1.1, x2.1, x3.1, x4.1, x5.1] := congrArg Prod.fst hx
      exact ⟨⟨A1, k1, l1, A2, n2, k2, A3, k3, l3, A4, k4, l4, A5, n5, k5, t⟩, rfl, ⟨r1, r3, r4, x0.1, x1.1, x2.1, x3.1, x4.1, x5.1, hd, sl_of (Q := fun _ _ => True) s1, sl_of (Q := fun _ _ => True) s3, s4⟩⟩
end
section
variable {H : Type}
theorem sl_size {ts : List TypeId} {ds : List (DataW H)} (hsz : (DataW.weightsEach Try.prog ts ds).all (· ≤ reachBytes) = true) {d : DataW H} {n b : Nat} {t e : TypeId} (s : SL d n) (ht : Try.prog.underlying t = some (.slice e)) (hb : Try.prog.bytesOf e = b)
    (hin : ∀ k, k ∈ d.weights Try.prog t → k ∈ DataW.weightsEach Try.prog ts ds) : n * b ≤ 140737488351232 := by
  rcases sl_weight s ht hb with h | ⟨k, hk, hle⟩
  · rw [h]; omega
  · have := List.all_eq_true.1 hsz _ (hin k hk)
    simp only [decide_eq_true_eq] at this
    unfold reachBytes at this
    omega
theorem conf_ok {w : World} {C : Cf} {d : DataW H} {ts : List TypeId} {ds : List (DataW H)} {j : Nat} (h : CfIn w C d) (hsz : (DataW.weightsEach Try.prog ts ds).all (· ≤ reachBytes) = true) (ht : ts[j]? = some 30) (hd : ds[j]? = some d) : C.Ok w := by
  obtain ⟨d1, d2, d3, d4, d5, d6, rfl, s1, s3, s4⟩ := h.data
  have f : ∀ (i : Nat) (di : DataW H) (t : TypeId), [d1, d2, d3, d4, d5, d6][i]? = some di → [22, 23, 24, 25, 26, 28][i]? = some t → ∀ k, k ∈ di.weights Try.prog t → k ∈ DataW.weightsEach Try.prog ts ds := fun i di t h1 h2 k hk => by
    refine DataW.weights_mem_each ht hd _ ?_
    simp only [DataW.weights, Try.underlying30]
    exact DataW.weights_mem_each h2 h1 _ hk
  have q1 := sl_size hsz s1 Try.underlying22 Try.tbS (f 0 _ _ rfl rfl)
  have q3 := sl_size hsz s3 Try.underlying24 Try.tbG (f 2 _ _ rfl rfl)
  have q4 := sl_size hsz s4 Try.underlying25 Try.tby (f 3 _ _ rfl rfl)
  exact ⟨h.secs, h.sigs, h.crs, by omega, by omega, by omega⟩
end
end Go.Proofs.Ytfmhfngilimhjaa.Te

namespace Go.Proofs.Ytfmhfngilimhjaa.Te
open Go.RowKit

theorem ten_cells9 {w : World} {b : Nat} {t : TypeId} {a0 a1 a2 a3 a4 a5 a6 a7 a8 a9 : Value} (h : Is w b t #[a0, a1, a2, a3, a4, a5, a6, a7, a8, a9]) : w.cell? ⟨b, 0, none⟩ = some a0 ∧ w.cell? ⟨b, 1, none⟩ = some a1 ∧ w.cell? ⟨b, 2, none⟩ = some a2 ∧ w.cell? ⟨b, 3, none⟩ = some a3 ∧ w.cell? ⟨b, 4, none⟩ = some a4 ∧ w.cell? ⟨b, 5, none⟩ = some a5 ∧ w.cell? ⟨b, 6, none⟩ = some a6 ∧ w.cell? ⟨b, 7, none⟩ = some a7 ∧ w.cell? ⟨b, 8, none⟩ = some a8 ∧ w.cell? ⟨b, 9, none⟩ = some a9 :=
  ⟨(h.cell 0).trans rfl, (h.cell 1).trans rfl, (h.cell 2).trans rfl, (h.cell 3).trans rfl, (h.cell 4).trans rfl, (h.cell 5).trans rfl, (h.cell 6).trans rfl, (h.cell 7).trans rfl, (h.cell 8).trans rfl, (h.cell 9).trans rfl⟩
end Go.Proofs.Ytfmhfngilimhjaa.Te

namespace Go.Proofs.Ytfmhfngilimhjaa.Te
open Go.RowKit

def inB (oc : Int) (s : Sec) : Bool := decide (s.oc = oc)
def ptB (oc : Int) (s : Sec) : Bool := decide (s.oc = oc) && decide (s.kind = 1)
def hasB (l : List Sec) (oc n : Int) : Bool := decide (0 ≤ n) && (match l[n.toNat]? with | some s => decide (s.oc = oc) | none => false)
def sgB (l : List Sec) (oc : Int) (s : Sg) : Bool := hasB l oc s.sec
theorem own_l3 {w wr : World} {A : Option Addr} {c : Nat} {L : List Int} (hown : wr.ownsRow w.heap.size 3 1 (.slice A L.length c) L.length (L.map (Value.int .i64))) (hL : L.length ≤ 17592186044416) : (L3.mk A L c).Ok wr ∧ ∀ q, blk A = some q → w.heap.size ≤ q ∧ q < wr.heap.size := by
  have hb : ∀ q, blk A = some q → (Value.slice A L.length c).ownBlock = some q := fun q hq => by rw [Row.own]; exact hq
  exact ⟨⟨wide_rd hown, hL, fun _ q hq => (World.ownsRow.lt hown q (hb q hq)).2⟩, fun q hq => World.ownsRow.lt hown q (hb q hq)⟩

theorem c1_any {w : World} {ob : Nat} {oc : Int} (h : w.cell? ⟨ob, 0, none⟩ = some (.int .i64 oc)) (s : Sec) :
    Calls Try.prog 32 #[.agg #[.int .i64 s.kind, .int .i64 s.oc, .int .i64 s.line], .pointer (some ⟨ob, 0, none⟩)] w fun e w' => e = .returned (.bool (inB oc s)) ∧ Fr (fun _ => False) w w' := by
  have f0 : Fr (fun _ => False) w (w.alloc (.cells #[.int .i64 s.kind, .int .i64 s.oc, .int .i64 s.line] 38)) := (Fr.refl _ w).alloc _
  have h' := (f0.cell (p := ⟨ob, 0, none⟩) (World.block_lt_of_cell? _ _ h) id).trans h
  unfold inB
  by_cases e : s.oc = oc
  · have e1 : (s.oc == oc) = true := by simpa using e
    rw [show decide (s.oc = oc) = true by simpa using e]
    clear e
    go_enter Try.func32, Try.ntmps32
    go_wp2
    go_ret
    exact ⟨rfl, f0⟩
  · have e1 : (s.oc == oc) = false := by simpa using e
    rw [show decide (s.oc = oc) = false by simpa using e]
    clear e
    go_enter Try.func32, Try.ntmps32
    go_wp2
    go_ret
    exact ⟨rfl, f0⟩
theorem c2_any {w : World} {ob : Nat} {oc : Int} (h : w.cell? ⟨ob, 0, none⟩ = some (.int .i64 oc)) (s : Sec) :
    Calls Try.prog 33 #[.agg #[.int .i64 s.kind, .int .i64 s.oc, .int .i64 s.line], .pointer (some ⟨ob, 0, none⟩)] w fun e w' => e = .returned (.bool (ptB oc s)) ∧ Fr (fun _ => False) w w' := by
  have f0 : Fr (fun _ => False) w (w.alloc (.cells #[.int .i64 s.kind, .int .i64 s.oc, .int .i64 s.line] 38)) := (Fr.refl _ w).alloc _
  have h' := (f0.cell (p := ⟨ob, 0, none⟩) (World.block_lt_of_cell? _ _ h) id).trans h
  unfold ptB
  by_cases e : s.oc = oc
  · have e1 : (s.oc == oc) = true := by simpa using e
    rw [show decide (s.oc = oc) = true by simpa using e]
    clear e
    by_cases k : s.kind = 1
    · have k1 : (s.kind == 1) = true := by simpa using k
      rw [show decide (s.kind = 1) = true by simpa using k]
      clear k
      go_enter Try.func33, Try.ntmps33
      go_wp2
      go_ret
      exact ⟨rfl, f0⟩
    · have k1 : (s.kind == 1) = false := by simpa using k
      rw [show decide (s.kind = 1) = false by simpa using k]
      clear k
      go_enter Try.func33, Try.ntmps33
      go_wp2
      go_ret
      exact ⟨rfl, f0⟩
  · have e1 : (s.oc == oc) = false := by simpa using e
    rw [show decide (s.oc = oc) = false by simpa using e]
    clear e
    go_enter Try.func33, Try.ntmps33
    go_wp2
    go_ret
    exact ⟨rfl, f0⟩
set_option maxHeartbeats 1000000 in
set_option maxRecDepth 100000 in
theorem nums1_any {w : World} {ob : Nat} {oc : Int} (h : w.cell? ⟨ob, 0, none⟩ = some (.int .i64 oc)) {A : Option Addr} {c : Nat} {l : List Sec} (hl : Rd w A (cellsS l)) (hll : l.length ≤ 17592186044416) :
    Calls Try.prog 31 #[.slice A l.length c, .func (.func 32) #[] #[.pointer (some ⟨ob, 0, none⟩)]] w fun e w' => ∃ x : L3, e = .returned x.val ∧ x.l = idx (inB oc) 0 l ∧ x.Ok w' ∧ (∀ q, blk x.A = some q → w.heap.size ≤ q ∧ q < w'.heap.size) ∧ Fr (fun _ => False) w w' := by
  obtain ⟨i0, hi0, hz0, hz1, hz2⟩ := info_parts Try.infoI
  have K := fun (s : Sec) (W : World) (f : Fr (fun _ => False) w W) => c1_any ((f.cell (p := ⟨ob, 0, none⟩) (World.block_lt_of_cell? _ _ h) id).trans h) s
  have HLL := Lib.hid hll
  have hl9 : (l.length : Int) ≤ 17592186044416 := by omega
  clear hll
  go_enter Try.func31, Try.ntmps31
  go_wp2_with fail
  go_loopw [5, 10] (fun v5 v10 wr => ∃ (k : Nat) (L : List Int) (B : Option Addr) (d : Nat), k ≤ l.length ∧ v10 = .int .i64 (k : Nat) ∧ L = idx (inB oc) 0 (l.take k) ∧ v5 = .slice B L.length d ∧ wr.ownsRow w.heap.size 3 1 (.slice B L.length d) L.length (L.map (Value.int .i64)) ∧ Fr (fun _ => False) w wr) (fun _ i _ => l.length - (intOf i).toNat)
  case atStart => exact ⟨0, [], none, 0, Nat.zero_le _, rfl, rfl, rfl, World.ownsRow_nil w _ _ _, Fr.refl _ _⟩
  case round =>
    obtain ⟨k, L, B, d, hk, rfl, hL, rfl, hown, F⟩ := hrel
    have hLl : L.length ≤ k := by
      rw [hL]
      exact Nat.le_trans (idx_le _ _ _) (by rw [List.length_take]; omega)
    by_cases hlt : k < l.length
    · obtain ⟨g, o, rfl, _, q0, q1, q2⟩ := rd_sec (hl.fr F fun _ _ => id) hlt
      have hsn := idx_snoc (inB oc) (l.take k) 0 l[k]
      have htk : (l.take k).length = k := by rw [List.length_take]; omega
      rw [Nat.zero_add, htk, ← List.take_succ_eq_append_getElem hlt, ← hL] at hsn
      have KX := K l[k] _ (F.alloc (.cells #[.int .i64 l[k].kind, .int .i64 l[k].oc, .int .i64 l[k].line] 38))
      have hb1 : L.length + 1 ≤ 140737488355328 := by have := HLL.out; omega
      have hb2 : (L.length + 1) * 8 ≤ 140737488355328 := by have := HLL.out; omega
      have HB1 := Lib.hid hb1
      have HB2 := Lib.hid hb2
      have HSN := Lib.hid hsn
      clear hb1 hb2 hLl htk hsn hL K
      generalize l[k] = x at *
      generalize hv : inB oc x = bb at *
      clear hv
      have hown2 : (wr.alloc (.cells #[.int .i64 x.kind, .int .i64 x.oc, .int .i64 x.line] 38)).ownsRow w.heap.size 3 1 (.slice B L.length d) L.length (L.map (Value.int .i64)) := hown.alloc _
      have F2 : Fr (fun _ => False) w (wr.alloc (.cells #[.int .i64 x.kind, .int .i64 x.oc, .int .i64 x.line] 38)) := (F.alloc (.cells #[.int .i64 x.kind, .int .i64 x.oc, .int .i64 x.line] 38))
      go_wp2_with fail
      refine KX.mono ?_
      rintro e w3 ⟨rfl, f3⟩
      have hown3 := wide_fr hown2 f3 fun _ _ => id
      have F3 := fr_nil F2 f3
      clear hown hown2 F2 f3 KX
      cases bb with
      | true =>
        have hlo := World.ownsRow.lt hown3
        have hbase : w.heap.size ≤ (w3.alloc (.cells #[.int .i64 (k : Nat)] 3)).heap.size := (F3.alloc _).size
        go_wp2_with (at_builtin; refine wpList_append_wide _ rfl (.tmp 18) (.tmp 20) 25 rfl w.heap.size 3 i0 _ 1 8 Try.underlying25 hi0 hz0 hz1 hz2 rfl (by decide) (.slice B L.length d) L.length (L.map (Value.int .i64)) rfl (hown3.alloc _) (some ⟨w3.heap.size, 0, none⟩) 1 1 [.int .i64 (k : Nat)] rfl rfl (lit_rd rfl _ _) (by simp [Value.oneCell']) (by have := HB1.out; unfold maxLen; omega) HB2.out hbase ?_; intro v6 w6 hown6 hg6 hat6; obtain ⟨A6, c6, rfl, _, _, _, _⟩ := wide_form hown6)
        have F6 := (F3.alloc (.cells #[.int .i64 (k : Nat)] 3)).grown hg6 fun j hj => .inr (hlo j hj).1
        have hown7 : w6.ownsRow w.heap.size 3 1 (.slice A6 (L ++ [((k : Nat) : Int)]).length c6) (L ++ [((k : Nat) : Int)]).length ((L ++ [((k : Nat) : Int)]).map (Value.int .i64)) := by
          rw [List.length_append, List.map_append]
          exact hown6
        have HO7 := Lib.hid hown7
        clear hg6 hat6 hlo hown6 hown7 hbase hown3 F3
        go_wp2_with fail
        go_roundw
        case rel => exact ⟨k + 1, L ++ [((k : Nat) : Int)], A6, c6, by omega, by go_num, by rw [HSN.out]; rfl, by rw [List.length_append]; rfl, HO7.out, F6⟩
        case measure => simp [intOf]; omega
      | false =>
        go_wp2_with fail
        go_roundw
        case rel => exact ⟨k + 1, L, B, d, by omega, by go_num, by rw [HSN.out]; simp, rfl, hown3, F3⟩
        case measure => simp [intOf]; omega
    · have hkl : k = l.length := by omega
      rw [hkl, List.take_length] at hL
      have HL := Lib.hid hL
      have HOW := Lib.hid hown
      have hLb : L.length ≤ 17592186044416 := by have := HLL.out; omega
      have HLB := Lib.hid hLb
      clear hL hown hkl hLl hLb
      go_wp2_with fail
      go_ret
      obtain ⟨o1, o2⟩ := own_l3 HOW.out HLB.out
      exact ⟨⟨B, L, d⟩, rfl, HL.out, o1, o2, F⟩
set_option maxHeartbeats 1000000 in
set_option maxRecDepth 100000 in
theorem nums2_any {w : World} {ob : Nat} {oc : Int} (h : w.cell? ⟨ob, 0, none⟩ = some (.int .i64 oc)) {A : Option Addr} {c : Nat} {l : List Sec} (hl : Rd w A (cellsS l)) (hll : l.length ≤ 17592186044416) :
    Calls Try.prog 31 #[.slice A l.length c, .func (.func 33) #[] #[.pointer (some ⟨ob, 0, none⟩)]] w fun e w' => ∃ x : L3, e = .returned x.val ∧ x.l = idx (ptB oc) 0 l ∧ x.Ok w' ∧ (∀ q, blk x.A = some q → w.heap.size ≤ q ∧ q < w'.heap.size) ∧ Fr (fun _ => False) w w' := by
  obtain ⟨i0, hi0, hz0, hz1, hz2⟩ := info_parts Try.infoI
  have K := fun (s : Sec) (W : World) (f : Fr (fun _ => False) w W) => c2_any ((f.cell (p := ⟨ob, 0, none⟩) (World.block_lt_of_cell? _ _ h) id).trans h) s
  have HLL := Lib.hid hll
  have hl9 : (l.length : Int) ≤ 17592186044416 := by omega
  clear hll
  go_enter Try.func31, Try.ntmps31
  go_wp2_with fail
  go_loopw [5, 10] (fun v5 v10 wr => ∃ (k : Nat) (L : List Int) (B : Option Addr) (d : Nat), k ≤ l.length ∧ v10 = .int .i64 (k : Nat) ∧ L = idx (ptB oc) 0 (l.take k) ∧ v5 = .slice B L.length d ∧ wr.ownsRow w.heap.size 3 1 (.slice B L.length d) L.length (L.map (Value.int .i64)) ∧ Fr (fun _ => False) w wr) (fun _ i _ => l.length - (intOf i).toNat)
  case atStart => exact ⟨0, [], none, 0, Nat.zero_le _, rfl, rfl, rfl, World.ownsRow_nil w _ _ _, Fr.refl _ _⟩
  case round =>
    obtain ⟨k, L, B, d, hk, rfl, hL, rfl, hown, F⟩ := hrel
    have hLl : L.length ≤ k := by
      rw [hL]
      exact Nat.le_trans (idx_le _ _ _) (by rw [List.length_take]; omega)
    by_cases hlt : k < l.length
    · obtain ⟨g, o, rfl, _, q0, q1, q2⟩ := rd_sec (hl.fr F fun _ _ => id) hlt
      have hsn := idx_snoc (ptB oc) (l.take k) 0 l[k]
      have htk : (l.take k).length = k := by rw [List.length_take]; omega
      rw [Nat.zero_add, htk, ← List.take_succ_eq_append_getElem hlt, ← hL] at hsn
      have KX := K l[k] _ (F.alloc (.cells #[.int .i64 l[k].kind, .int .i64 l[k].oc, .int .i64 l[k].line] 38))
      have hb1 : L.length + 1 ≤ 140737488355328 := by have := HLL.out; omega
      have hb2 : (L.length + 1) * 8 ≤ 140737488355328 := by have := HLL.out; omega
      have HB1 := Lib.hid hb1
      have HB2 := Lib.hid hb2
      have HSN := Lib.hid hsn
      clear hb1 hb2 hLl htk hsn hL K
      generalize l[k] = x at *
      generalize hv : ptB oc x = bb at *
      clear hv
      have hown2 : (wr.alloc (.cells #[.int .i64 x.kind, .int .i64 x.oc, .int .i64 x.line] 38)).ownsRow w.heap.size 3 1 (.slice B L.length d) L.length (L.map (Value.int .i64)) := hown.alloc _
      have F2 : Fr (fun _ => False) w (wr.alloc (.cells #[.int .i64 x.kind, .int .i64 x.oc, .int .i64 x.line] 38)) := (F.alloc (.cells #[.int .i64 x.kind, .int .i64 x.oc, .int .i64 x.line] 38))
      go_wp2_with fail
      refine KX.mono ?_
      rintro e w3 ⟨rfl, f3⟩
      have hown3 := wide_fr hown2 f3 fun _ _ => id
      have F3 := fr_nil F2 f3
      clear hown hown2 F2 f3 KX
      cases bb with
      | true =>
        have hlo := World.ownsRow.lt hown3
        have hbase : w.heap.size ≤ (w3.alloc (.cells #[.int .i64 (k : Nat)] 3)).heap.size := (F3.alloc _).size
        go_wp2_with (at_builtin; refine wpList_append_wide _ rfl (.tmp 18) (.tmp 20) 25 rfl w.heap.size 3 i0 _ 1 8 Try.underlying25 hi0 hz0 hz1 hz2 rfl (by decide) (.slice B L.length d) L.length (L.map (Value.int .i64)) rfl (hown3.alloc _) (some ⟨w3.heap.size, 0, none⟩) 1 1 [.int .i64 (k : Nat)] rfl rfl (lit_rd rfl _ _) (by simp [Value.oneCell']) (by have := HB1.out; unfold maxLen; omega) HB2.out hbase ?_; intro v6 w6 hown6 hg6 hat6; obtain ⟨A6, c6, rfl, _, _, _, _⟩ := wide_form hown6)
        have F6 := (F3.alloc (.cells #[.int .i64 (k : Nat)] 3)).grown hg6 fun j hj => .inr (hlo j hj).1
        have hown7 : w6.ownsRow w.heap.size 3 1 (.slice A6 (L ++ [((k : Nat) : Int)]).length c6) (L ++ [((k : Nat) : Int)]).length ((L ++ [((k : Nat) : Int)]).map (Value.int .i64)) := by
          rw [List.length_append, List.map_append]
          exact hown6
        have HO7 := Lib.hid hown7
        clear hg6 hat6 hlo hown6 hown7 hbase hown3 F3
        go_wp2_with fail
        go_roundw
        case rel => exact ⟨k + 1, L ++ [((k : Nat) : Int)], A6, c6, by omega, by go_num, by rw [HSN.out]; rfl, by rw [List.length_append]; rfl, HO7.out, F6⟩
        case measure => simp [intOf]; omega
      | false =>
        go_wp2_with fail
        go_roundw
        case rel => exact ⟨k + 1, L, B, d, by omega, by go_num, by rw [HSN.out]; simp, rfl, hown3, F3⟩
        case measure => simp [intOf]; omega
    · have hkl : k = l.length := by omega
      rw [hkl, List.take_length] at hL
      have HL := Lib.hid hL
      have HOW := Lib.hid hown
      have hLb : L.length ≤ 17592186044416 := by have := HLL.out; omega
      have HLB := Lib.hid hLb
      clear hL hown hkl hLl hLb
      go_wp2_with fail
      go_ret
      obtain ⟨o1, o2⟩ := own_l3 HOW.out HLB.out
      exact ⟨⟨B, L, d⟩, rfl, HL.out, o1, o2, F⟩
end Go.Proofs.Ytfmhfngilimhjaa.Te

namespace Go.Proofs.Ytfmhfngilimhjaa.Te
open Go.RowKit

def Cf.ctl (C : Cf) (oc : Int) : List Value := C.cells ++ [.int .i64 oc]
theorem ctl_cells {w : World} {b : Nat} {C : Cf} {oc : Int} (h : Is w b 78 (C.ctl oc).toArray) : w.cell? ⟨b, 0, none⟩ = some (.slice C.A1 C.l.length C.c1) ∧ w.cell? ⟨b, 9, none⟩ = some (.int .i64 oc) := ⟨(h.cell 0).trans rfl, (h.cell 9).trans rfl⟩

set_option maxHeartbeats 1000000 in
theorem has_any {w : World} {C : Cf} (hC : Rd w C.A1 (cellsS C.l)) (hl : C.l.length ≤ 17592186044416) (oc n : Int) :
    Calls Try.prog 35 #[.agg (C.ctl oc).toArray, .int .i64 n] w fun e w' => e = .returned (.bool (hasB C.l oc n)) ∧ Fr (fun _ => False) w w' := by
  have f0 : Fr (fun _ => False) w (w.alloc (.cells (C.ctl oc).toArray 78)) := (Fr.refl _ w).alloc _
  have hC' := hC.fr f0 fun _ _ => id
  obtain ⟨A1, c1, l, A2, n2, c2, A3, c3, sg, A4, c4, cr, A5, n5, c5, ⟨ta, tb, th, tu⟩⟩ := C
  obtain ⟨p0, p9⟩ := ctl_cells (Is.new w 78 (Cf.ctl ⟨A1, c1, l, A2, n2, c2, A3, c3, sg, A4, c4, cr, A5, n5, c5, ⟨ta, tb, th, tu⟩⟩ oc).toArray)
  unfold Cf.ctl Cf.cells at *
  simp only [List.cons_append, List.nil_append] at *
  have hl9 : (l.length : Int) ≤ 17592186044416 := by omega
  unfold hasB
  by_cases h0 : 0 ≤ n
  · obtain ⟨m, rfl⟩ : ∃ m : Nat, n = m := ⟨n.toNat, by omega⟩
    have d1 : decide (0 ≤ (m : Int)) = true := by simp
    rw [Int.toNat_natCast, d1, Bool.true_and]
    by_cases h1 : m < l.length
    · have d2 : decide ((m : Int) < (l.length : Int)) = true := by simpa using h1
      obtain ⟨g, o, rfl, _, q0, q1, q2⟩ := rd_sec hC' h1
      rw [List.getElem?_eq_getElem h1]
      simp only
      have b1 : (m : Int) < (l.length : Int) := by omega
      have b0 : (0 : Int) ≤ (m : Int) := by omega
      generalize l[m] = x at *
      by_cases h2 : x.oc = oc
      · have e1 : (x.oc == oc) = true := by simpa using h2
        rw [show decide (x.oc = oc) = true by simpa using h2]
        clear h2 hC hC' hl h0
        go_enter Try.func35, Try.ntmps35
        go_wp2_with fail
        go_quiet (fail)
        go_wp2
        go_ret
        exact ⟨rfl, f0.drewN nq⟩
      · have e1 : (x.oc == oc) = false := by simpa using h2
        rw [show decide (x.oc = oc) = false by simpa using h2]
        clear h2 hC hC' hl h0
        go_enter Try.func35, Try.ntmps35
        go_wp2_with fail
        go_quiet (fail)
        go_wp2
        go_ret
        exact ⟨rfl, f0.drewN nq⟩
    · have d2 : decide ((m : Int) < (l.length : Int)) = false := by simpa using h1
      rw [List.getElem?_eq_none (by omega)]
      clear hC hC' hl h0
      go_enter Try.func35, Try.ntmps35
      go_wp2_with fail
      go_quiet (fail)
      go_wp2
      go_ret
      exact ⟨rfl, f0.drewN nq⟩
  · have d1 : decide (0 ≤ n) = false := by simpa using h0
    rw [d1, Bool.false_and]
    clear hC hC' hl
    go_enter Try.func35, Try.ntmps35
    go_wp2_with fail
    go_quiet (fail)
    go_wp2
    go_ret
    exact ⟨rfl, f0.drewN nq⟩
end Go.Proofs.Ytfmhfngilimhjaa.Te

namespace Go.Proofs.Ytfmhfngilimhjaa.Te
open Go.RowKit

theorem c3_any {w : World} {C : Cf} {cb : Nat} {oc : Int} (hb : Is w cb 78 (C.ctl oc).toArray) (hC : Rd w C.A1 (cellsS C.l)) (hl : C.l.length ≤ 17592186044416) (s : Sg) :
    Calls Try.prog 37 #[.agg #[.int .i64 s.sec, .int .i64 s.fin], .pointer (some ⟨cb, 0, none⟩)] w fun e w' => e = .returned (.bool (sgB C.l oc s)) ∧ Fr (fun _ => False) w w' := by
  have f0 : Fr (fun _ => False) w (w.alloc (.cells #[.int .i64 s.sec, .int .i64 s.fin] 40)) := (Fr.refl _ w).alloc _
  have K := has_any (hC.fr f0 fun _ _ => id) hl oc s.sec
  have ib := hb.fr f0 id
  obtain ⟨A1, c1, l, A2, n2, c2, A3, c3, sg, A4, c4, cr, A5, n5, c5, ⟨ta, tb, th, tu⟩⟩ := C
  unfold sgB
  simp only at *
  generalize hasB l oc s.sec = B at *
  unfold Cf.ctl Cf.cells at *
  simp only [List.cons_append, List.nil_append] at *
  obtain ⟨p0, p1, p2, p3, p4, p5, p6, p7, p8, p9⟩ := ten_cells9 ib
  clear hb hC hl ib
  go_enter Try.func37, Try.ntmps37
  go_wp2_with fail
  refine K.mono ?_
  rintro e w1 ⟨rfl, f1⟩
  go_wp2_with fail
  go_ret
  exact ⟨rfl, fr_nil f0 f1⟩
set_option maxHeartbeats 1000000 in
set_option maxRecDepth 100000 in
theorem nums3_any {w : World} {C : Cf} (hC : Rd w C.A1 (cellsS C.l)) (hCl : C.l.length ≤ 17592186044416) (oc : Int) {A : Option Addr} {c : Nat} {l : List Int} (hl : Rd w A (l.map (Value.int .i64))) (hll : l.length ≤ 17592186044416) :
    Calls Try.prog 34 #[.slice A l.length c, .func (.func 35) #[.agg (C.ctl oc).toArray] #[]] w fun e w' => ∃ x : L3, e = .returned x.val ∧ x.l = idx (hasB C.l oc) 0 l ∧ x.Ok w' ∧ (∀ q, blk x.A = some q → w.heap.size ≤ q ∧ q < w'.heap.size) ∧ Fr (fun _ => False) w w' := by
  obtain ⟨i0, hi0, hz0, hz1, hz2⟩ := info_parts Try.infoI
  have K := fun (x : Int) (W : World) (f : Fr (fun _ => False) w W) => has_any (hC.fr f fun _ _ => id) hCl oc x
  have HLL := Lib.hid hll
  have hl9 : (l.length : Int) ≤ 17592186044416 := by omega
  clear hll
  go_enter Try.func34, Try.ntmps34
  go_wp2_with fail
  go_loopw [5, 10] (fun v5 v10 wr => ∃ (k : Nat) (L : List Int) (B : Option Addr) (d : Nat), k ≤ l.length ∧ v10 = .int .i64 (k : Nat) ∧ L = idx (hasB C.l oc) 0 (l.take k) ∧ v5 = .slice B L.length d ∧ wr.ownsRow w.heap.size 3 1 (.slice B L.length d) L.length (L.map (Value.int .i64)) ∧ Fr (fun _ => False) w wr) (fun _ i _ => l.length - (intOf i).toNat)
  case atStart => exact ⟨0, [], none, 0, Nat.zero_le _, rfl, rfl, rfl, World.ownsRow_nil w _ _ _, Fr.refl _ _⟩
  case round =>
    obtain ⟨k, L, B, d, hk, rfl, hL, rfl, hown, F⟩ := hrel
    have hLl : L.length ≤ k := by
      rw [hL]
      exact Nat.le_trans (idx_le _ _ _) (by rw [List.length_take]; omega)
    by_cases hlt : k < l.length
    · obtain ⟨g, o, rfl, _, q0⟩ := rd_int (hl.fr F fun _ _ => id) hlt
      have hsn := idx_snoc (hasB C.l oc) (l.take k) 0 l[k]
      have htk : (l.take k).length = k := by rw [List.length_take]; omega
      rw [Nat.zero_add, htk, ← List.take_succ_eq_append_getElem hlt, ← hL] at hsn
      have KX := K l[k] _ F
      have hb1 : L.length + 1 ≤ 140737488355328 := by have := HLL.out; omega
      have hb2 : (L.length + 1) * 8 ≤ 140737488355328 := by have := HLL.out; omega
      have HB1 := Lib.hid hb1
      have HB2 := Lib.hid hb2
      have HSN := Lib.hid hsn
      clear hb1 hb2 hLl htk hsn hL K
      generalize l[k] = x at *
      generalize hv : hasB C.l oc x = bb at *
      clear hv
      have hown2 : wr.ownsRow w.heap.size 3 1 (.slice B L.length d) L.length (L.map (Value.int .i64)) := hown
      have F2 : Fr (fun _ => False) w wr := F
      go_wp2_with fail
      refine KX.mono ?_
      rintro e w3 ⟨rfl, f3⟩
      have hown3 := wide_fr hown2 f3 fun _ _ => id
      have F3 := fr_nil F2 f3
      clear hown hown2 F2 f3 KX
      cases bb with
      | true =>
        have hlo := World.ownsRow.lt hown3
        have hbase : w.heap.size ≤ (w3.alloc (.cells #[.int .i64 (k : Nat)] 3)).heap.size := (F3.alloc _).size
        go_wp2_with (at_builtin; refine wpList_append_wide _ rfl (.tmp 18) (.tmp 20) 25 rfl w.heap.size 3 i0 _ 1 8 Try.underlying25 hi0 hz0 hz1 hz2 rfl (by decide) (.slice B L.length d) L.length (L.map (Value.int .i64)) rfl (hown3.alloc _) (some ⟨w3.heap.size, 0, none⟩) 1 1 [.int .i64 (k : Nat)] rfl rfl (lit_rd rfl _ _) (by simp [Value.oneCell']) (by have := HB1.out; unfold maxLen; omega) HB2.out hbase ?_; intro v6 w6 hown6 hg6 hat6; obtain ⟨A6, c6, rfl, _, _, _, _⟩ := wide_form hown6)
        have F6 := (F3.alloc (.cells #[.int .i64 (k : Nat)] 3)).grown hg6 fun j hj => .inr (hlo j hj).1
        have hown7 : w6.ownsRow w.heap.size 3 1 (.slice A6 (L ++ [((k : Nat) : Int)]).length c6) (L ++ [((k : Nat) : Int)]).length ((L ++ [((k : Nat) : Int)]).map (Value.int .i64)) := by
          rw [List.length_append, List.map_append]
          exact hown6
        have HO7 := Lib.hid hown7
        clear hg6 hat6 hlo hown6 hown7 hbase hown3 F3
        go_wp2_with fail
        go_roundw
        case rel => exact ⟨k + 1, L ++ [((k : Nat) : Int)], A6, c6, by omega, by go_num, by rw [HSN.out]; rfl, by rw [List.length_append]; rfl, HO7.out, F6⟩
        case measure => simp [intOf]; omega
      | false =>
        go_wp2_with fail
        go_roundw
        case rel => exact ⟨k + 1, L, B, d, by omega, by go_num, by rw [HSN.out]; simp, rfl, hown3, F3⟩
        case measure => simp [intOf]; omega
    · have hkl : k = l.length := by omega
      rw [hkl, List.take_length] at hL
      have HL := Lib.hid hL
      have HOW := Lib.hid hown
      have hLb : L.length ≤ 17592186044416 := by have := HLL.out; omega
      have HLB := Lib.hid hLb
      clear hL hown hkl hLl hLb
      go_wp2_with fail
      go_ret
      obtain ⟨o1, o2⟩ := own_l3 HOW.out HLB.out
      exact ⟨⟨B, L, d⟩, rfl, HL.out, o1, o2, F⟩
set_option maxHeartbeats 1000000 in
set_option maxRecDepth 100000 in
theorem nums4_any {w : World} {C : Cf} {cb : Nat} {oc : Int} (hb : Is w cb 78 (C.ctl oc).toArray) (hC : Rd w C.A1 (cellsS C.l)) (hCl : C.l.length ≤ 17592186044416) {A : Option Addr} {c : Nat} {l : List Sg} (hl : Rd w A (cellsG l)) (hll : l.length ≤ 17592186044416) :
    Calls Try.prog 36 #[.slice A l.length c, .func (.func 37) #[] #[.pointer (some ⟨cb, 0, none⟩)]] w fun e w' => ∃ x : L3, e = .returned x.val ∧ x.l = idx (sgB C.l oc) 0 l ∧ x.Ok w' ∧ (∀ q, blk x.A = some q → w.heap.size ≤ q ∧ q < w'.heap.size) ∧ Fr (fun _ => False) w w' := by
  obtain ⟨i0, hi0, hz0, hz1, hz2⟩ := info_parts Try.infoI
  have K := fun (x : Sg) (W : World) (f : Fr (fun _ => False) w W) => c3_any (hb.fr f id) (hC.fr f fun _ _ => id) hCl x
  have HLL := Lib.hid hll
  have hl9 : (l.length : Int) ≤ 17592186044416 := by omega
  clear hll
  go_enter Try.func36, Try.ntmps36
  go_wp2_with fail
  go_loopw [5, 10] (fun v5 v10 wr => ∃ (k : Nat) (L : List Int) (B : Option Addr) (d : Nat), k ≤ l.length ∧ v10 = .int .i64 (k : Nat) ∧ L = idx (sgB C.l oc) 0 (l.take k) ∧ v5 = .slice B L.length d ∧ wr.ownsRow w.heap.size 3 1 (.slice B L.length d) L.length (L.map (Value.int .i64)) ∧ Fr (fun _ => False) w wr) (fun _ i _ => l.length - (intOf i).toNat)
  case atStart => exact ⟨0, [], none, 0, Nat.zero_le _, rfl, rfl, rfl, World.ownsRow_nil w _ _ _, Fr.refl _ _⟩
  case round =>
    obtain ⟨k, L, B, d, hk, rfl, hL, rfl, hown, F⟩ := hrel
    have hLl : L.length ≤ k := by
      rw [hL]
      exact Nat.le_trans (idx_le _ _ _) (by rw [List.length_take]; omega)
    by_cases hlt : k < l.length
    · obtain ⟨g, o, rfl, _, q0, q1⟩ := rd_sg (hl.fr F fun _ _ => id) hlt
      have hsn := idx_snoc (sgB C.l oc) (l.take k) 0 l[k]
      have htk : (l.take k).length = k := by rw [List.length_take]; omega
      rw [Nat.zero_add, htk, ← List.take_succ_eq_append_getElem hlt, ← hL] at hsn
      have KX := K l[k] _ (F.alloc (.cells #[.int .i64 l[k].sec, .int .i64 l[k].fin] 40))
      have hb1 : L.length + 1 ≤ 140737488355328 := by have := HLL.out; omega
      have hb2 : (L.length + 1) * 8 ≤ 140737488355328 := by have := HLL.out; omega
      have HB1 := Lib.hid hb1
      have HB2 := Lib.hid hb2
      have HSN := Lib.hid hsn
      clear hb1 hb2 hLl htk hsn hL K
      generalize l[k] = x at *
      generalize hv : sgB C.l oc x = bb at *
      clear hv
      have hown2 : (wr.alloc (.cells #[.int .i64 x.sec, .int .i64 x.fin] 40)).ownsRow w.heap.size 3 1 (.slice B L.length d) L.length (L.map (Value.int .i64)) := hown.alloc _
      have F2 : Fr (fun _ => False) w (wr.alloc (.cells #[.int .i64 x.sec, .int .i64 x.fin] 40)) := (F.alloc (.cells #[.int .i64 x.sec, .int .i64 x.fin] 40))
      go_wp2_with fail
      refine KX.mono ?_
      rintro e w3 ⟨rfl, f3⟩
      have hown3 := wide_fr hown2 f3 fun _ _ => id
      have F3 := fr_nil F2 f3
      clear hown hown2 F2 f3 KX
      cases bb with
      | true =>
        have hlo := World.ownsRow.lt hown3
        have hbase : w.heap.size ≤ (w3.alloc (.cells #[.int .i64 (k : Nat)] 3)).heap.size := (F3.alloc _).size
        go_wp2_with (at_builtin; refine wpList_append_wide _ rfl (.tmp 18) (.tmp 20) 25 rfl w.heap.size 3 i0 _ 1 8 Try.underlying25 hi0 hz0 hz1 hz2 rfl (by decide) (.slice B L.length d) L.length (L.map (Value.int .i64)) rfl (hown3.alloc _) (some ⟨w3.heap.size, 0, none⟩) 1 1 [.int .i64 (k : Nat)] rfl rfl (lit_rd rfl _ _) (by simp [Value.oneCell']) (by have := HB1.out; unfold maxLen; omega) HB2.out hbase ?_; intro v6 w6 hown6 hg6 hat6; obtain ⟨A6, c6, rfl, _, _, _, _⟩ := wide_form hown6)
        have F6 := (F3.alloc (.cells #[.int .i64 (k : Nat)] 3)).grown hg6 fun j hj => .inr (hlo j hj).1
        have hown7 : w6.ownsRow w.heap.size 3 1 (.slice A6 (L ++ [((k : Nat) : Int)]).length c6) (L ++ [((k : Nat) : Int)]).length ((L ++ [((k : Nat) : Int)]).map (Value.int .i64)) := by
          rw [List.length_append, List.map_append]
          exact hown6
        have HO7 := Lib.hid hown7
        clear hg6 hat6 hlo hown6 hown7 hbase hown3 F3
        go_wp2_with fail
        go_roundw
        case rel => exact ⟨k + 1, L ++ [((k : Nat) : Int)], A6, c6, by omega, by go_num, by rw [HSN.out]; rfl, by rw [List.length_append]; rfl, HO7.out, F6⟩
        case measure => simp [intOf]; omega
      | false =>
        go_wp2_with fail
        go_roundw
        case rel => exact ⟨k + 1, L, B, d, by omega, by go_num, by rw [HSN.out]; simp, rfl, hown3, F3⟩
        case measure => simp [intOf]; omega
    · have hkl : k = l.length := by omega
      rw [hkl, List.take_length] at hL
      have HL := Lib.hid hL
      have HOW := Lib.hid hown
      have hLb : L.length ≤ 17592186044416 := by have := HLL.out; omega
      have HLB := Lib.hid hLb
      clear hL hown hkl hLl hLb
      go_wp2_with fail
      go_ret
      obtain ⟨o1, o2⟩ := own_l3 HOW.out HLB.out
      exact ⟨⟨B, L, d⟩, rfl, HL.out, o1, o2, F⟩
end Go.Proofs.Ytfmhfngilimhjaa.Te

namespace Go.Proofs.Ytfmhfngilimhjaa.Te
open Go.RowKit

/-- the document's shape of a controller -/
def shL (C : Cf) (oc : Int) : St := ⟨idx (inB oc) 0 C.l, idx (ptB oc) 0 C.l, idx (hasB C.l oc) 0 C.cr, idx (sgB C.l oc) 0 C.sg⟩

def Ret (W : World) (T : List Int) (e : Ending) (w' : World) : Prop := ∃ (A : Option Addr) (l : List Int) (c : Nat), e = .returned (.slice A l.length c) ∧ l = T ∧ (L3.mk A l c).Ok w' ∧ (∀ q, blk A = some q → W.heap.size ≤ q ∧ q < w'.heap.size) ∧ Fr (fun _ => False) W w'
theorem ret_of {W : World} {T : List Int} {e : Ending} {w' : World} (h : ∃ x : L3, e = .returned x.val ∧ x.l = T ∧ x.Ok w' ∧ (∀ q, blk x.A = some q → W.heap.size ≤ q ∧ q < w'.heap.size) ∧ Fr (fun _ => False) W w') : Ret W T e w' := by
  obtain ⟨x, he, hl, ok, hn, F⟩ := h
  exact ⟨x.A, x.l, x.c, he, hl, ok, hn, F⟩
set_option maxHeartbeats 2000000 in
set_option maxRecDepth 100000 in
theorem shape_any {w : World} {C : Cf} (hC : C.Ok w) (oc : Int) :
    Calls Try.prog 9 #[C.val, .int .i64 oc] w fun e w' => ∃ x : Sta, e = .returned x.val ∧ x.st = shL C oc ∧ x.Ok w' ∧ x.New w.heap.size ∧ Fr (fun _ => False) w w' := by
  have hmf : ∀ (fn : Fn) (first cap : Array Value) (w : World), (Instr.makeFunc fn first cap).run Try.prog w = .ok (.func fn first cap) w := fun _ _ _ _ => rfl
  obtain ⟨wA, hwA⟩ : ∃ wA, wA = (((w.alloc (.cells C.cells.toArray 30)).alloc (.cells #[.int .i64 oc] 3)).alloc (.cells #[.slice none 0 0, .slice none 0 0, .slice none 0 0, .slice none 0 0] 33)).alloc (.cells (C.ctl oc).toArray 78) := ⟨_, rfl⟩
  have fA : Fr (fun _ => False) w wA := by rw [hwA]; exact ((((Fr.refl _ w).alloc _).alloc _).alloc _).alloc _
  have i0 : Is wA w.heap.size 30 C.cells.toArray := by rw [hwA]; exact (((Is.new _ _ _).alloc _).alloc _).alloc _
  have i1 : Is wA (w.heap.size + 1) 3 #[.int .i64 oc] := by
    rw [hwA]
    have := Is.new (w.alloc (.cells C.cells.toArray 30)) 3 #[.int .i64 oc]
    simp only [World.size_alloc] at this
    exact (this.alloc _).alloc _
  have i2 : Is wA (w.heap.size + 2) 33 #[.slice none 0 0, .slice none 0 0, .slice none 0 0, .slice none 0 0] := by
    rw [hwA]
    have := Is.new ((w.alloc (.cells C.cells.toArray 30)).alloc (.cells #[.int .i64 oc] 3)) 33 #[.slice none 0 0, .slice none 0 0, .slice none 0 0, .slice none 0 0]
    simp only [World.size_alloc] at this
    exact this.alloc _
  have i3 : Is wA (w.heap.size + 3) 78 (C.ctl oc).toArray := by
    rw [hwA]
    have := Is.new (((w.alloc (.cells C.cells.toArray 30)).alloc (.cells #[.int .i64 oc] 3)).alloc (.cells #[.slice none 0 0, .slice none 0 0, .slice none 0 0, .slice none 0 0] 33)) 78 (C.ctl oc).toArray
    simp only [World.size_alloc] at this
    exact this
  have hCA := hC.fr fA
  have N1 := fun (W : World) (f : Fr (fun _ => False) wA W) => (nums1_any (c := C.c1) ((i1.fr f id).cell 0) (hCA.secs.fr f fun _ _ => id) hCA.b1).mono fun e w' h => (ret_of h : Ret W (idx (inB oc) 0 C.l) e w')
  have N2 := fun (W : World) (f : Fr (fun _ => False) wA W) => (nums2_any (c := C.c1) ((i1.fr f id).cell 0) (hCA.secs.fr f fun _ _ => id) hCA.b1).mono fun e w' h => (ret_of h : Ret W (idx (ptB oc) 0 C.l) e w')
  have N3 := fun (W : World) (f : Fr (fun _ => False) wA W) => (nums3_any (c := C.c4) (hCA.secs.fr f fun _ _ => id) hCA.b1 oc (hCA.crs.fr f fun _ _ => id) hCA.b4).mono fun e w' h => (ret_of h : Ret W (idx (hasB C.l oc) 0 C.cr) e w')
  have N4 := fun (W : World) (f : Fr (fun _ => False) wA W) => (nums4_any (c := C.c3) (i3.fr f id) (hCA.secs.fr f fun _ _ => id) hCA.b1 (hCA.sigs.fr f fun _ _ => id) hCA.b3).mono fun e w' h => (ret_of h : Ret W (idx (sgB C.l oc) 0 C.sg) e w')
  have hT : shL C oc = ⟨idx (inB oc) 0 C.l, idx (ptB oc) 0 C.l, idx (hasB C.l oc) 0 C.cr, idx (sgB C.l oc) 0 C.sg⟩ := rfl
  rw [hT]
  clear hT hC hCA
  generalize idx (inB oc) 0 C.l = T1 at *
  generalize idx (ptB oc) 0 C.l = T2 at *
  generalize idx (hasB C.l oc) 0 C.cr = T3 at *
  generalize idx (sgB C.l oc) 0 C.sg = T4 at *
  obtain ⟨A1, c1, l, A2, n2, c2, A3, c3, sg, A4, c4, cr, A5, n5, c5, ⟨ta, tb, th, tu⟩⟩ := C
  unfold Cf.val
  unfold Cf.ctl Cf.cells at *
  simp only [List.cons_append, List.nil_append] at *
  have HWA := Lib.hid hwA
  have HFA := Lib.hid fA
  have HI2 := Lib.hid i2
  have HI0 := Lib.hid i0
  have HI3 := Lib.hid i3
  have sl : ∀ (U : World), Fr (fun k => k = w.heap.size + 2) wA U → (U.cell? ⟨w.heap.size, 0, none⟩ = some (.slice A1 l.length c1) ∧ U.cell? ⟨w.heap.size, 2, none⟩ = some (.slice A3 sg.length c3) ∧ U.cell? ⟨w.heap.size, 3, none⟩ = some (.slice A4 cr.length c4)) ∧ U.cell? ⟨w.heap.size + 3, 0, none⟩ = some (.slice A1 l.length c1) ∧ U.cell? ⟨w.heap.size + 3, 1, none⟩ = some (.slice A2 n2 c2) ∧ U.cell? ⟨w.heap.size + 3, 2, none⟩ = some (.slice A3 sg.length c3) ∧ U.cell? ⟨w.heap.size + 3, 3, none⟩ = some (.slice A4 cr.length c4) ∧ U.cell? ⟨w.heap.size + 3, 4, none⟩ = some (.slice A5 n5 c5) ∧ U.cell? ⟨w.heap.size + 3, 5, none⟩ = some (.int .i64 ta) ∧ U.cell? ⟨w.heap.size + 3, 6, none⟩ = some (.int .i64 tb) ∧ U.cell? ⟨w.heap.size + 3, 7, none⟩ = some (.int .i64 th) ∧ U.cell? ⟨w.heap.size + 3, 8, none⟩ = some (.int .i64 tu) ∧ U.cell? ⟨w.heap.size + 3, 9, none⟩ = some (.int .i64 oc)   := fun U F => by
    have j0 := HI0.out.fr F (by omega)
    have j3 := HI3.out.fr F (by omega)
    exact ⟨⟨j0.cell 0, j0.cell 2, j0.cell 3⟩, ten_cells9 j3⟩
  have SLH := Lib.hid sl
  clear hwA fA i0 i1 i2 i3 sl
  go_enter Try.func9, Try.ntmps9
  go_wp2_with fail
  rw [← HWA.out]
  have g0 : Fr (fun _ => False) wA wA.drew := (Fr.refl _ wA).drew
  refine wp_region_held_drew (S := fun Wx => (Wx.cell? ⟨w.heap.size, 0, none⟩ = some (.slice A1 l.length c1) ∧ Wx.cell? ⟨w.heap.size, 2, none⟩ = some (.slice A3 sg.length c3) ∧ Wx.cell? ⟨w.heap.size, 3, none⟩ = some (.slice A4 cr.length c4)) ∧ Wx.cell? ⟨w.heap.size + 3, 0, none⟩ = some (.slice A1 l.length c1) ∧ Wx.cell? ⟨w.heap.size + 3, 1, none⟩ = some (.slice A2 n2 c2) ∧ Wx.cell? ⟨w.heap.size + 3, 2, none⟩ = some (.slice A3 sg.length c3) ∧ Wx.cell? ⟨w.heap.size + 3, 3, none⟩ = some (.slice A4 cr.length c4) ∧ Wx.cell? ⟨w.heap.size + 3, 4, none⟩ = some (.slice A5 n5 c5) ∧ Wx.cell? ⟨w.heap.size + 3, 5, none⟩ = some (.int .i64 ta) ∧ Wx.cell? ⟨w.heap.size + 3, 6, none⟩ = some (.int .i64 tb) ∧ Wx.cell? ⟨w.heap.size + 3, 7, none⟩ = some (.int .i64 th) ∧ Wx.cell? ⟨w.heap.size + 3, 8, none⟩ = some (.int .i64 tu) ∧ Wx.cell? ⟨w.heap.size + 3, 9, none⟩ = some (.int .i64 oc)) (by kernel_rfl) (SLH.out _ (g0.mono fun _ _ h => h.elim)) (fun hHeld => ?_)
  refine wpAnyH_take (i := 0) (v := ?_) rfl (by kernel_rfl) (by kernel_rfl) (by kernel_rfl) (fun _ _ _ h => h) (Or.inl ⟨by rfl, ?_⟩) (by assumption) ?_
  rotate_left
  · intro Wx hSw
    try dsimp only at hSw
    go_simp
    try with_reducible rfl
  try simp only [Act.put]
  refine wpAnyH_take (i := 1) (v := ?_) rfl (by kernel_rfl) (by kernel_rfl) (by kernel_rfl) (fun _ _ _ h => h) (Or.inl ⟨by rfl, ?_⟩) (by assumption) ?_
  rotate_left
  · intro Wx hSw
    try dsimp only at hSw
    go_simp
    try with_reducible rfl
  try simp only [Act.put]
  refine wpAnyH_take (i := 4) (v := ?_) rfl (by kernel_rfl) (by kernel_rfl) (by kernel_rfl) (fun _ _ _ h => h) (Or.inl ⟨by rfl, ?_⟩) (by assumption) ?_
  rotate_left
  · intro Wx hSw
    try dsimp only at hSw
    go_simp
    try with_reducible rfl
  try simp only [Act.put]
  refine wpAnyH_take (i := 5) (v := ?_) rfl (by kernel_rfl) (by kernel_rfl) (by kernel_rfl) (fun _ _ _ h => h) (Or.inl ⟨by rfl, ?_⟩) (by assumption) ?_
  rotate_left
  · intro Wx hSw
    try dsimp only at hSw
    go_simp
    try with_reducible rfl
  try simp only [Act.put]
  refine wpAnyH_take (i := 8) (v := ?_) rfl (by kernel_rfl) (by kernel_rfl) (by kernel_rfl) (fun _ _ _ h => h) (Or.inl ⟨by rfl, ?_⟩) (by assumption) ?_
  rotate_left
  · intro Wx hSw
    try dsimp only at hSw
    go_simp
    try with_reducible rfl
  try simp only [Act.put]
  refine wpAnyH_take (i := 9) (v := ?_) rfl (by kernel_rfl) (by kernel_rfl) (by kernel_rfl) (fun _ _ _ h => h) (Or.inl ⟨by rfl, ?_⟩) (by assumption) ?_
  rotate_left
  · intro Wx hSw
    try dsimp only at hSw
    go_simp
    try with_reducible rfl
  try simp only [Act.put]
  refine wpAnyH_take (i := 10) (v := ?_) rfl (by kernel_rfl) (by kernel_rfl) (by kernel_rfl) (fun _ _ _ h => h) (Or.inl ⟨by rfl, ?_⟩) (by assumption) ?_
  rotate_left
  · intro Wx hSw
    try dsimp only at hSw
    go_simp
    try with_reducible rfl
  try simp only [Act.put]
  refine wpAnyH_take (i := 13) (v := ?_) rfl (by kernel_rfl) (by kernel_rfl) (by kernel_rfl) (fun _ _ _ h => h) (Or.inl ⟨by rfl, ?_⟩) (by assumption) ?_
  rotate_left
  · intro Wx hSw
    try dsimp only at hSw
    go_simp
    try with_reducible rfl
  try simp only [Act.put]
  refine wpAnyH_take (i := 14) (v := ?_) rfl (by kernel_rfl) (by kernel_rfl) (by kernel_rfl) (fun _ _ _ h => h) (Or.inl ⟨by rfl, ?_⟩) (by assumption) ?_
  rotate_left
  · intro Wx hSw
    try dsimp only at hSw
    go_simp
    try with_reducible rfl
  try simp only [Act.put]
  refine wpAnyH_take (i := 2) (v := ?_) rfl (by kernel_rfl) (by kernel_rfl) (by kernel_rfl) (fun _ _ _ h => h) (Or.inl ⟨by rfl, ?_⟩) (by assumption) ?_
  rotate_left
  · intro Wx hSw
    try dsimp only at hSw
    go_simp
    try with_reducible rfl
  try simp only [Act.put]
  refine wpAnyH_take (i := 6) (v := ?_) rfl (by kernel_rfl) (by kernel_rfl) (by kernel_rfl) (fun _ _ _ h => h) (Or.inl ⟨by rfl, ?_⟩) (by assumption) ?_
  rotate_left
  · intro Wx hSw
    try dsimp only at hSw
    go_simp
    try with_reducible rfl
  try simp only [Act.put]
  refine wpAnyH_take (i := 11) (v := ?_) rfl (by kernel_rfl) (by kernel_rfl) (by kernel_rfl) (fun _ _ _ h => h) (Or.inl ⟨by rfl, ?_⟩) (by assumption) ?_
  rotate_left
  · intro Wx hSw
    try dsimp only at hSw
    go_simp
    try with_reducible rfl
  try simp only [Act.put]
  refine wpAnyH_take (i := 15) (v := ?_) rfl (by kernel_rfl) (by kernel_rfl) (by kernel_rfl) (fun _ _ _ h => h) (Or.inl ⟨by rfl, ?_⟩) (by assumption) ?_
  rotate_left
  · intro Wx hSw
    try dsimp only at hSw
    go_simp
    try with_reducible rfl
  try simp only [Act.put]
  refine wpAnyH_ready (rs := [3]) (by kernel_rfl) (by simp) (AllReadyH.cons rfl (fun K hK => ?_) AllReadyH.nil)
  go_simp
  refine (N1 _ g0).mono ?_
  intro e u1 hret
  unfold Ret at hret
  obtain ⟨B1, m1, d1, rfl, e1, o1, n1, f1⟩ := hret
  have E1 := Lib.hid e1
  have O1 := Lib.hid o1
  have M1 := Lib.hid n1
  have H1 := Lib.hid f1
  have g1 := fr_nil g0 f1
  clear e1 o1 n1 f1 N1
  go_simp
  refine hK.out _ _ (SLH.out _ (g1.mono fun _ _ h => h.elim)) (fun hHeld => ?_)
  clear hK K
  refine wpAnyH_ready (rs := [7]) (by kernel_rfl) (by simp) (AllReadyH.cons rfl (fun K hK => ?_) AllReadyH.nil)
  go_simp
  refine (N2 _ g1).mono ?_
  intro e u2 hret
  unfold Ret at hret
  obtain ⟨B2, m2, d2, rfl, e2, o2, n2, f2⟩ := hret
  have E2 := Lib.hid e2
  have O2 := Lib.hid o2
  have M2 := Lib.hid n2
  have H2 := Lib.hid f2
  have g2 := fr_nil g1 f2
  clear e2 o2 n2 f2 N2
  go_simp
  refine hK.out _ _ (SLH.out _ (g2.mono fun _ _ h => h.elim)) (fun hHeld => ?_)
  clear hK K
  refine wpAnyH_ready (rs := [12]) (by kernel_rfl) (by simp) (AllReadyH.cons rfl (fun K hK => ?_) AllReadyH.nil)
  go_simp
  refine (N3 _ g2).mono ?_
  intro e u3 hret
  unfold Ret at hret
  obtain ⟨B3, m3, d3, rfl, e3, o3, n3, f3⟩ := hret
  have E3 := Lib.hid e3
  have O3 := Lib.hid o3
  have M3 := Lib.hid n3
  have H3 := Lib.hid f3
  have g3 := fr_nil g2 f3
  clear e3 o3 n3 f3 N3
  go_simp
  refine hK.out _ _ (SLH.out _ (g3.mono fun _ _ h => h.elim)) (fun hHeld => ?_)
  clear hK K
  refine wpAnyH_ready (rs := [16]) (by kernel_rfl) (by simp) (AllReadyH.cons rfl (fun K hK => ?_) AllReadyH.nil)
  go_simp
  refine (N4 _ g3).mono ?_
  intro e u4 hret
  unfold Ret at hret
  obtain ⟨B4, m4, d4, rfl, e4, o4, n4, f4⟩ := hret
  have E4 := Lib.hid e4
  have O4 := Lib.hid o4
  have M4 := Lib.hid n4
  have H4 := Lib.hid f4
  have g4 := fr_nil g3 f4
  clear e4 o4 n4 f4 N4
  go_simp
  refine hK.out _ _ (SLH.out _ (g4.mono fun _ _ h => h.elim)) (fun hHeld => ?_)
  clear hK K
  refine wpAnyH_take (i := 17) (v := ?_) rfl (by kernel_rfl) (by kernel_rfl) (by kernel_rfl) (fun _ _ _ h => h) (Or.inl ⟨by rfl, ?_⟩) (by assumption) ?_
  rotate_left
  · intro Wx hSw
    try dsimp only at hSw
    go_simp
    try with_reducible rfl
  try simp only [Act.put]
  have J4 := Lib.hid (HI2.out.fr g4 id)
  have z0 : u4.frozen? ⟨w.heap.size + 2, 0, none⟩ = false := J4.out.frozen 0
  have z1 : u4.frozen? ⟨w.heap.size + 2, 1, none⟩ = false := J4.out.frozen 1
  have z2 : u4.frozen? ⟨w.heap.size + 2, 2, none⟩ = false := J4.out.frozen 2
  have z3 : u4.frozen? ⟨w.heap.size + 2, 3, none⟩ = false := J4.out.frozen 3
  obtain ⟨k0, k1, k2, k3⟩ := four_cells J4.out
  have fz := ((((Fr.refl (fun k => k = w.heap.size + 2) u4).setCell (p := ⟨w.heap.size + 2, 0, none⟩) (.inl rfl) (.slice B1 m1.length d1)).setCell (p := ⟨w.heap.size + 2, 1, none⟩) (.inl rfl) (.slice B2 m2.length d2)).setCell (p := ⟨w.heap.size + 2, 2, none⟩) (.inl rfl) (.slice B3 m3.length d3)).setCell (p := ⟨w.heap.size + 2, 3, none⟩) (.inl rfl) (.slice B4 m4.length d4)
  have FZ := Lib.hid fz
  clear fz
  refine wpAnyH_ready (rs := [18]) (by kernel_rfl) (by simp) (AllReadyH.cons rfl (fun K hK => ?_) AllReadyH.nil)
  go_simp
  refine hK.out _ _ (SLH.out _ ((g4.mono fun _ _ h => h.elim).trans FZ.out fun _ _ h => h)) (fun hHeld => ?_)
  clear hK K
  refine wpAnyH_done (by kernel_rfl) ?_ _
  have i7 := (((J4.out.set 0 (.slice B1 m1.length d1)).set 1 (.slice B2 m2.length d2)).set 2 (.slice B3 m3.length d3)).set 3 (.slice B4 m4.length d4)
  have hz : w.heap.size + 4 ≤ wA.heap.size := HI3.out.lt
  have y0 : wA.heap.size = wA.drew.heap.size := rfl
  have y1 := H1.out.size
  have y2 := H2.out.size
  have y3 := H3.out.size
  have y4 := H4.out.size
  have q1 : ∀ q, blk B1 = some q → ¬ q = w.heap.size + 2 := fun q hq e => by have := (M1.out q hq).1; omega
  have q2 : ∀ q, blk B2 = some q → ¬ q = w.heap.size + 2 := fun q hq e => by have := (M2.out q hq).1; omega
  have q3 : ∀ q, blk B3 = some q → ¬ q = w.heap.size + 2 := fun q hq e => by have := (M3.out q hq).1; omega
  have q4 : ∀ q, blk B4 = some q → ¬ q = w.heap.size + 2 := fun q hq e => by have := (M4.out q hq).1; omega
  have ok1 := (((O1.out.fr H2.out fun _ _ => id).fr H3.out fun _ _ => id).fr H4.out fun _ _ => id).fr FZ.out q1
  have ok2 := ((O2.out.fr H3.out fun _ _ => id).fr H4.out fun _ _ => id).fr FZ.out q2
  have ok3 := (O3.out.fr H4.out fun _ _ => id).fr FZ.out q3
  have ok4 := O4.out.fr FZ.out q4
  have r1 : ∀ q, blk B1 = some q → w.heap.size ≤ q := fun q hq => by have := (M1.out q hq).1; omega
  have r2 : ∀ q, blk B2 = some q → w.heap.size ≤ q := fun q hq => by have := (M2.out q hq).1; omega
  have r3 : ∀ q, blk B3 = some q → w.heap.size ≤ q := fun q hq => by have := (M3.out q hq).1; omega
  have r4 : ∀ q, blk B4 = some q → w.heap.size ≤ q := fun q hq => by have := (M4.out q hq).1; omega
  have fin : Fr (fun _ => False) w ((((u4.setCell ⟨w.heap.size + 2, 0, none⟩ (.slice B1 m1.length d1)).setCell ⟨w.heap.size + 2, 1, none⟩ (.slice B2 m2.length d2)).setCell ⟨w.heap.size + 2, 2, none⟩ (.slice B3 m3.length d3)).setCell ⟨w.heap.size + 2, 3, none⟩ (.slice B4 m4.length d4)) := (fr_nil HFA.out g4).trans FZ.out (fun j hj e => by omega)
  clear FZ J4 z0 z1 z2 z3 k0 k1 k2 k3 hHeld q1 q2 q3 q4 O1 O2 O3 O4 M1 M2 M3 M4 H1 H2 H3 H4 g0 g1 g2 g3 g4 SLH HI0 HI2 HI3 HFA HWA
  generalize (((u4.setCell ⟨w.heap.size + 2, 0, none⟩ (.slice B1 m1.length d1)).setCell ⟨w.heap.size + 2, 1, none⟩ (.slice B2 m2.length d2)).setCell ⟨w.heap.size + 2, 2, none⟩ (.slice B3 m3.length d3)).setCell ⟨w.heap.size + 2, 3, none⟩ (.slice B4 m4.length d4) = W at *
  obtain ⟨v0, v1, v2, v3⟩ := four_cells i7
  go_wp2_with fail
  refine bodyPost_ret (v := .agg #[.slice B1 m1.length d1, .slice B2 m2.length d2, .slice B3 m3.length d3, .slice B4 m4.length d4]) (by simp [results, Try.results9, go_sem, v0, v1, v2, v3]) rfl ⟨⟨⟨B1, m1, d1⟩, ⟨B2, m2, d2⟩, ⟨B3, m3, d3⟩, ⟨B4, m4, d4⟩⟩, rfl, ?_, ⟨ok1, ok2, ok3, ok4⟩, ⟨r1, r2, r3, r4⟩, fin⟩
  unfold Sta.st
  rw [E1.out, E2.out, E3.out, E4.out]
end Go.Proofs.Ytfmhfngilimhjaa.Te


/- How arguments are read that are shapes, and what is told. -/
import Derived.Test.YtmohefkingnknaaTstat
import Derived.Test.YtmohefkingnknaaTblock
import Derived.Test.YtmohefkingnknaaLaw
import Derived.Test.YtmohefkingnknaaInts
import Derived.Deep.Slices
import Derived.Lib.SmallJoins
import Derived.SizedLaws
namespace Go.Proofs.Ytmohefkingnknaa.Te
open Go.ChangeShapes Go.WideShapes Go.ChangeAt Go.RowKit Go.Deep Go.Joins

theorem Try.tcSh : Try.prog.cellsOf 24 = 4 := by kernel_rfl
theorem Try.tcSt : Try.prog.cellsOf 26 = 4 := by kernel_rfl
theorem Try.tcOr : Try.prog.cellsOf 28 = 3 := by kernel_rfl
theorem Try.tcBl : Try.prog.cellsOf 30 = 3 := by kernel_rfl
theorem Try.tcTo : Try.prog.cellsOf 32 = 10 := by kernel_rfl
theorem Try.tcL : Try.prog.cellsOf 22 = 1 := by kernel_rfl
theorem Try.tby : Try.prog.bytesOf 3 = 8 := by kernel_rfl
/-- a list's length, as the reading tells it -/
def SL {H : Type} (d : DataW H) (n : Nat) : Prop := (d = .nil ∧ n = 0) ∨ ∃ es rest, d = .slice es rest ∧ es.length = n
/-- what is told, that is read -/
structure Tol where
  s : Sta
  o : Ods
  b : Bl
def Tol.cells (x : Tol) : List Value := x.s.cells ++ x.o.cells ++ [.int .i64 x.b.a, .int .i64 x.b.d, .int .i64 x.b.g]
def Tol.val (x : Tol) : Value := .agg x.cells.toArray

section
variable {H : Type} {enc : TypeId × Value → H} {w : World} {base : Nat}
theorem int_of {n : Nat} {c : Value} {y : DataW H × List MemPlace} (h : DataW.trod enc Try.prog w 0 (fun _ => true) true n 3 [c] = some y) : ∃ a : Int, c = .int .i64 a := by
  obtain ⟨a, e, _, _⟩ := DataW.trod_int Try.underlying3 h
  exact ⟨a, by injection e⟩
set_option maxRecDepth 100000 in
theorem l3_of {n : Nat} {v : Value} {y : DataW H × List MemPlace} (h : DataW.trod enc Try.prog w 0 (fun _ => true) true n 22 [v] = some y) :
    ∃ x : L3, v = .slice x.A x.l.length x.c ∧ Rd w x.A (x.l.map (Value.int .i64)) ∧ SL y.1 x.l.length := by
  rcases open_ints Try.underlying22 Try.underlying3 Try.cellInt h with ⟨hcs, hd⟩ | ⟨a, len, cap, zs, hcs, _, hl, hm, hz, hd, hcell, _⟩
  · exact ⟨⟨none, [], 0⟩, by simpa using hcs, (fun h => by simp at h), .inl ⟨by rw [hd], rfl⟩⟩
  · have hzc : zs.length = cap := by simpa using hz
    have hlen' : (zs.take len).length = len := by rw [List.length_take]; omega
    refine ⟨⟨some a, zs.take len, cap⟩, by rw [hlen']; simpa using hcs, rd_of fun i u hu => ?_, .inr ⟨lits .i64 (zs.take len), lits .i64 (zs.drop len), by rw [hd], by rw [lits_len]⟩⟩
    have hi : i < len := by
      have := (List.getElem?_eq_some_iff.1 hu).1
      rw [List.length_map, hlen'] at this
      exact this
    rw [hcell i (by omega)]
    rw [List.getElem?_map, List.getElem?_take, if_pos hi, List.getElem?_eq_getElem (by omega)] at hu
    simp only [Option.map_some, Option.some.injEq] at hu
    rw [← hu, List.getD_eq_getElem?_getD, List.getElem?_eq_getElem (by omega)]
    rfl
/-- a list that was read, but for its size -/
def L3.In (w : World) (x : L3) (d : DataW H) : Prop := Rd w x.A (x.l.map (Value.int .i64)) ∧ SL d x.l.length
set_option maxRecDepth 100000 in
theorem sta_of {n : Nat} {cs : List Value} {y : DataW H × List MemPlace} (h : DataW.trod enc Try.prog w 0 (fun _ => true) true n 26 cs = some y) :
    ∃ (x : Sta) (d0 d1 d2 d3 : DataW H), cs = x.cells ∧ y.1 = .agg [d0, d1, d2, d3] ∧ x.occ.In w d0 ∧ x.pos.In w d1 ∧ x.shut.In w d2 ∧ x.lamp.In w d3 := by
  obtain ⟨xs, m, _, hx, hlen, hxl, hf⟩ := DataW.trod_struct Try.underlying26 h
  rw [Try.tcSt] at hlen
  match cs, hlen with
  | [e0, e1, e2, e3], _ =>
    match xs, hxl with
    | [x0, x1, x2, x3], _ =>
      have h0 : DataW.trod enc Try.prog w 0 (fun _ => true) true m 22 (([e0, e1, e2, e3].drop 0).take (Try.prog.cellsOf 22)) = some x0 := hf 0 _ rfl
      have h1 : DataW.trod enc Try.prog w 0 (fun _ => true) true m 22 (([e0, e1, e2, e3].drop 1).take (Try.prog.cellsOf 22)) = some x1 := hf 1 _ rfl
      have h2 : DataW.trod enc Try.prog w 0 (fun _ => true) true m 22 (([e0, e1, e2, e3].drop 2).take (Try.prog.cellsOf 22)) = some x2 := hf 2 _ rfl
      have h3 : DataW.trod enc Try.prog w 0 (fun _ => true) true m 22 (([e0, e1, e2, e3].drop 3).take (Try.prog.cellsOf 22)) = some x3 := hf 3 _ rfl
      rw [Try.tcL] at h0 h1 h2 h3
      obtain ⟨a0, rfl, r0, s0⟩ := l3_of (show DataW.trod enc Try.prog w 0 (fun _ => true) true m 22 [e0] = some x0 from h0)
      obtain ⟨a1, rfl, r1, s1⟩ := l3_of (show DataW.trod enc Try.prog w 0 (fun _ => true) true m 22 [e1] = some x1 from h1)
      obtain ⟨a2, rfl, r2, s2⟩ := l3_of (show DataW.trod enc Try.prog w 0 (fun _ => true) true m 22 [e2] = some x2 from h2)
      obtain ⟨a3, rfl, r3, s3⟩ := l3_of (show DataW.trod enc Try.prog w 0 (fun _ => true) true m 22 [e3] = some x3 from h3)
      exact ⟨⟨a0, a1, a2, a3⟩, x0.1, x1.1, x2.1, x3.1, rfl, by rw [hx]; rfl, ⟨r0, s0⟩, ⟨r1, s1⟩, ⟨r2, s2⟩, ⟨r3, s3⟩⟩
set_option maxRecDepth 100000 in
theorem sha_of {n : Nat} {cs : List Value} {y : DataW H × List MemPlace} (h : DataW.trod enc Try.prog w 0 (fun _ => true) true n 24 cs = some y) :
    ∃ (x : Sta) (d0 d1 d2 d3 : DataW H), cs = x.cells ∧ y.1 = .agg [d0, d1, d2, d3] ∧ x.occ.In w d0 ∧ x.pos.In w d1 ∧ x.shut.In w d2 ∧ x.lamp.In w d3 := by
  obtain ⟨xs, m, _, hx, hlen, hxl, hf⟩ := DataW.trod_struct Try.underlying24 h
  rw [Try.tcSh] at hlen
  match cs, hlen with
  | [e0, e1, e2, e3], _ =>
    match xs, hxl with
    | [x0, x1, x2, x3], _ =>
      have h0 : DataW.trod enc Try.prog w 0 (fun _ => true) true m 22 (([e0, e1, e2, e3].drop 0).take (Try.prog.cellsOf 22)) = some x0 := hf 0 _ rfl
      have h1 : DataW.trod enc Try.prog w 0 (fun _ => true) true m 22 (([e0, e1, e2, e3].drop 1).take (Try.prog.cellsOf 22)) = some x1 := hf 1 _ rfl
      have h2 : DataW.trod enc Try.prog w 0 (fun _ => true) true m 22 (([e0, e1, e2, e3].drop 2).take (Try.prog.cellsOf 22)) = some x2 := hf 2 _ rfl
      have h3 : DataW.trod enc Try.prog w 0 (fun _ => true) true m 22 (([e0, e1, e2, e3].drop 3).take (Try.prog.cellsOf 22)) = some x3 := hf 3 _ rfl
      rw [Try.tcL] at h0 h1 h2 h3
      obtain ⟨a0, rfl, r0, s0⟩ := l3_of (show DataW.trod enc Try.prog w 0 (fun _ => true) true m 22 [e0] = some x0 from h0)
      obtain ⟨a1, rfl, r1, s1⟩ := l3_of (show DataW.trod enc Try.prog w 0 (fun _ => true) true m 22 [e1] = some x1 from h1)
      obtain ⟨a2, rfl, r2, s2⟩ := l3_of (show DataW.trod enc Try.prog w 0 (fun _ => true) true m 22 [e2] = some x2 from h2)
      obtain ⟨a3, rfl, r3, s3⟩ := l3_of (show DataW.trod enc Try.prog w 0 (fun _ => true) true m 22 [e3] = some x3 from h3)
      exact ⟨⟨a0, a1, a2, a3⟩, x0.1, x1.1, x2.1, x3.1, rfl, by rw [hx]; rfl, ⟨r0, s0⟩, ⟨r1, s1⟩, ⟨r2, s2⟩, ⟨r3, s3⟩⟩
set_option maxRecDepth 100000 in
theorem ods_of {n : Nat} {cs : List Value} {y : DataW H × List MemPlace} (h : DataW.trod enc Try.prog w 0 (fun _ => true) true n 28 cs = some y) :
    ∃ (x : Ods) (d0 d1 d2 : DataW H), cs = x.cells ∧ y.1 = .agg [d0, d1, d2] ∧ x.pos.In w d0 ∧ x.asp.In w d1 ∧ x.shut.In w d2 := by
  obtain ⟨xs, m, _, hx, hlen, hxl, hf⟩ := DataW.trod_struct Try.underlying28 h
  rw [Try.tcOr] at hlen
  match cs, hlen with
  | [e0, e1, e2], _ =>
    match xs, hxl with
    | [x0, x1, x2], _ =>
      have h0 : DataW.trod enc Try.prog w 0 (fun _ => true) true m 22 (([e0, e1, e2].drop 0).take (Try.prog.cellsOf 22)) = some x0 := hf 0 _ rfl
      have h1 : DataW.trod enc Try.prog w 0 (fun _ => true) true m 22 (([e0, e1, e2].drop 1).take (Try.prog.cellsOf 22)) = some x1 := hf 1 _ rfl
      have h2 : DataW.trod enc Try.prog w 0 (fun _ => true) true m 22 (([e0, e1, e2].drop 2).take (Try.prog.cellsOf 22)) = some x2 := hf 2 _ rfl
      rw [Try.tcL] at h0 h1 h2
      obtain ⟨a0, rfl, r0, s0⟩ := l3_of (show DataW.trod enc Try.prog w 0 (fun _ => true) true m 22 [e0] = some x0 from h0)
      obtain ⟨a1, rfl, r1, s1⟩ := l3_of (show DataW.trod enc Try.prog w 0 (fun _ => true) true m 22 [e1] = some x1 from h1)
      obtain ⟨a2, rfl, r2, s2⟩ := l3_of (show DataW.trod enc Try.prog w 0 (fun _ => true) true m 22 [e2] = some x2 from h2)
      exact ⟨⟨a0, a1, a2⟩, x0.1, x1.1, x2.1, rfl, by rw [hx]; rfl, ⟨r0, s0⟩, ⟨r1, s1⟩, ⟨r2, s2⟩⟩
set_option maxRecDepth 100000 in
theorem bl_of {n : Nat} {cs : List Value} {y : DataW H × List MemPlace} (h : DataW.trod enc Try.prog w 0 (fun _ => true) true n 30 cs = some y) : ∃ x : Bl, cs = [.int .i64 x.a, .int .i64 x.d, .int .i64 x.g] := by
  obtain ⟨xs, m, _, hx, hlen, hxl, hf⟩ := DataW.trod_struct Try.underlying30 h
  rw [Try.tcBl] at hlen
  match cs, hlen with
  | [c0, c1, c2], _ =>
    match xs, hxl with
    | [x0, x1, x2], _ =>
      have h0 : DataW.trod enc Try.prog w 0 (fun _ => true) true m 3 (([c0, c1, c2].drop 0).take (Try.prog.cellsOf 3)) = some x0 := hf 0 _ rfl
      have h1 : DataW.trod enc Try.prog w 0 (fun _ => true) true m 3 (([c0, c1, c2].drop 1).take (Try.prog.cellsOf 3)) = some x1 := hf 1 _ rfl
      have h2 : DataW.trod enc Try.prog w 0 (fun _ => true) true m 3 (([c0, c1, c2].drop 2).take (Try.prog.cellsOf 3)) = some x2 := hf 2 _ rfl
      rw [Try.cellInt] at h0 h1 h2
      obtain ⟨a, rfl⟩ := int_of (show DataW.trod enc Try.prog w 0 (fun _ => true) true m 3 [c0] = some x0 from h0)
      obtain ⟨b, rfl⟩ := int_of (show DataW.trod enc Try.prog w 0 (fun _ => true) true m 3 [c1] = some x1 from h1)
      obtain ⟨c, rfl⟩ := int_of (show DataW.trod enc Try.prog w 0 (fun _ => true) true m 3 [c2] = some x2 from h2)
      exact ⟨⟨a, b, c⟩, rfl⟩
/-- a shape that came in -/
structure ShIn (w : World) (x : Sta) (d : DataW H) : Prop where
  data : ∃ d0 d1 d2 d3, d = .agg [d0, d1, d2, d3] ∧ x.occ.In w d0 ∧ x.pos.In w d1 ∧ x.shut.In w d2 ∧ x.lamp.In w d3
structure ToIn (w : World) (x : Tol) (d : DataW H) : Prop where
  data : ∃ ds d0 d1 d2 d3 e0 e1 e2, d = .agg [.agg [d0, d1, d2, d3], .agg [e0, e1, e2], ds] ∧ x.s.occ.In w d0 ∧ x.s.pos.In w d1 ∧ x.s.shut.In w d2 ∧ x.s.lamp.In w d3 ∧ x.o.pos.In w e0 ∧ x.o.asp.In w e1 ∧ x.o.shut.In w e2
set_option maxRecDepth 100000 in
theorem open_shape {v : Value} {d : DataW H} {ps : List MemPlace} (hv : Value.okWide Try.prog w .any base 24 v) (h : DataW.Trod enc Try.prog w 0 (fun _ => true) true 24 v d ps) : ∃ x : Sta, v = x.val ∧ ShIn w x d := by
  simp only [Value.okWide, Try.underlying24] at hv
  obtain ⟨cs, rfl, hcs, _⟩ := hv
  obtain ⟨fuel, hf0⟩ := h
  obtain ⟨l⟩ := cs
  obtain ⟨x, d0, d1, d2, d3, hl, hd, i0, i1, i2, i3⟩ := sha_of hf0
  have hl' : l = x.cells := hl
  subst hl'
  exact ⟨x, rfl, ⟨d0, d1, d2, d3, hd, i0, i1, i2, i3⟩⟩
set_option maxRecDepth 100000 in
theorem open_told {v : Value} {d : DataW H} {ps : List MemPlace} (hv : Value.okWide Try.prog w .any base 32 v) (h : DataW.Trod enc Try.prog w 0 (fun _ => true) true 32 v d ps) : ∃ x : Tol, v = x.val ∧ ToIn w x d := by
  simp only [Value.okWide, Try.underlying32] at hv
  obtain ⟨cs, rfl, hcs, _⟩ := hv
  obtain ⟨fuel, hf0⟩ := h
  obtain ⟨l⟩ := cs
  obtain ⟨xs, m, _, hx, hlen, hxl, hf⟩ := DataW.trod_struct Try.underlying32 hf0
  rw [Try.tcTo] at hlen
  match l, hlen with
  | [e0, e1, e2, e3, e4, e5, e6, e7, e8, e9], _ =>
    match xs, hxl with
    | [x0, x1, x2], _ =>
      have h0 : DataW.trod enc Try.prog w 0 (fun _ => true) true m 26 (([e0, e1, e2, e3, e4, e5, e6, e7, e8, e9].drop 0).take (Try.prog.cellsOf 26)) = some x0 := hf 0 _ rfl
      have h1 : DataW.trod enc Try.prog w 0 (fun _ => true) true m 28 (([e0, e1, e2, e3, e4, e5, e6, e7, e8, e9].drop 4).take (Try.prog.cellsOf 28)) = some x1 := hf 1 _ rfl
      have h2 : DataW.trod enc Try.prog w 0 (fun _ => true) true m 30 (([e0, e1, e2, e3, e4, e5, e6, e7, e8, e9].drop 7).take (Try.prog.cellsOf 30)) = some x2 := hf 2 _ rfl
      rw [Try.tcSt] at h0
      rw [Try.tcOr] at h1
      rw [Try.tcBl] at h2
      obtain ⟨a, d0, d1, d2, d3, ha, hda, i0, i1, i2, i3⟩ := sta_of (show DataW.trod enc Try.prog w 0 (fun _ => true) true m 26 [e0, e1, e2, e3] = some x0 from h0)
      obtain ⟨b, f0, f1, f2, hb, hdb, j0, j1, j2⟩ := ods_of (show DataW.trod enc Try.prog w 0 (fun _ => true) true m 28 [e4, e5, e6] = some x1 from h1)
      obtain ⟨c, hc⟩ := bl_of (show DataW.trod enc Try.prog w 0 (fun _ => true) true m 30 [e7, e8, e9] = some x2 from h2)
      have e : [e0, e1, e2, e3, e4, e5, e6, e7, e8, e9] = [e0, e1, e2, e3] ++ [e4, e5, e6] ++ [e7, e8, e9] := rfl
      refine ⟨⟨a, b, c⟩, ?_, ⟨x2.1, d0, d1, d2, d3, f0, f1, f2, ?_, i0, i1, i2, i3, j0, j1, j2⟩⟩
      · show Value.agg (List.toArray _) = _
        rw [e, ha, hb, hc]
        rfl
      · have := congrArg Prod.fst hx
        rw [show d = _ from this]
        simp [hda, hdb]
end
section
variable {H : Type}
theorem sl_weight {d : DataW H} {n b : Nat} {t e : TypeId} (s : SL d n) (ht : Try.prog.underlying t = some (.slice e)) (hb : Try.prog.bytesOf e = b) : n = 0 ∨ ∃ k, k ∈ d.weights Try.prog t ∧ n * b ≤ k := by
  rcases s with ⟨_, h⟩ | ⟨es, rest, rfl, h⟩
  · exact .inl h
  · refine .inr ⟨(es.length + rest.length) * b, ?_, ?_⟩
    · simp only [DataW.weights, ht, hb]
      simp
    · rw [← h]
      exact Nat.mul_le_mul_right _ (Nat.le_add_right _ _)
/-- a list of what came in is of the size that the contracts take -/
theorem in_ok {w : World} {x : L3} {d : DataW H} {ts : List TypeId} {ds : List (DataW H)} (h : x.In w d) (hsz : (DataW.weightsEach Try.prog ts ds).all (· ≤ reachBytes) = true) (hin : ∀ k, k ∈ d.weights Try.prog 22 → k ∈ DataW.weightsEach Try.prog ts ds) : x.Ok w := by
  have hl : x.l.length ≤ 17592186044416 := by
    rcases sl_weight h.2 Try.underlying22 Try.tby with h | ⟨k, hk, hle⟩
    · rw [h]; omega
    · have := List.all_eq_true.1 hsz _ (hin k hk)
      simp only [decide_eq_true_eq] at this
      unfold reachBytes at this
      omega
  refine ⟨h.1, hl, fun h0 k hk => ?_⟩
  obtain ⟨b, o, hA, hb, _⟩ := h.1 (by rw [List.length_map]; exact h0)
  rw [hA] at hk
  have : b = k := by injection hk
  omega
theorem sh_ok {w : World} {x : Sta} {d : DataW H} {ts : List TypeId} {ds : List (DataW H)} {j : Nat} (h : ShIn w x d) (hsz : (DataW.weightsEach Try.prog ts ds).all (· ≤ reachBytes) = true) (ht : ts[j]? = some 24) (hd : ds[j]? = some d) : x.Ok w := by
  obtain ⟨d0, d1, d2, d3, rfl, i0, i1, i2, i3⟩ := h.data
  have f : ∀ (i : Nat) (di : DataW H), [d0, d1, d2, d3][i]? = some di → [22, 22, 22, 22][i]? = some 22 → ∀ k, k ∈ di.weights Try.prog 22 → k ∈ DataW.weightsEach Try.prog ts ds := fun i di h1 h2 k hk => by
    refine DataW.weights_mem_each ht hd _ ?_
    simp only [DataW.weights, Try.underlying24]
    exact DataW.weights_mem_each h2 h1 _ hk
  exact ⟨in_ok i0 hsz (f 0 _ rfl rfl), in_ok i1 hsz (f 1 _ rfl rfl), in_ok i2 hsz (f 2 _ rfl rfl), in_ok i3 hsz (f 3 _ rfl rfl)⟩
theorem to_ok {w : World} {x : Tol} {d : DataW H} {ts : List TypeId} {ds : List (DataW H)} {j : Nat} (h : ToIn w x d) (hsz : (DataW.weightsEach Try.prog ts ds).all (· ≤ reachBytes) = true) (ht : ts[j]? = some 32) (hd : ds[j]? = some d) : x.s.Ok w ∧ x.o.Ok w := by
  obtain ⟨dl, d0, d1, d2, d3, e0, e1, e2, rfl, i0, i1, i2, i3, j0, j1, j2⟩ := h.data
  have f : ∀ (i : Nat) (di : DataW H), [d0, d1, d2, d3][i]? = some di → [22, 22, 22, 22][i]? = some 22 → ∀ k, k ∈ di.weights Try.prog 22 → k ∈ DataW.weightsEach Try.prog ts ds := fun i di h1 h2 k hk => by
    refine DataW.weights_mem_each ht hd _ ?_
    simp only [DataW.weights, Try.underlying32]
    refine DataW.weights_mem_each (j := 0) (t := 26) rfl rfl _ ?_
    simp only [DataW.weights, Try.underlying26]
    exact DataW.weights_mem_each h2 h1 _ hk
  have g : ∀ (i : Nat) (di : DataW H), [e0, e1, e2][i]? = some di → [22, 22, 22][i]? = some 22 → ∀ k, k ∈ di.weights Try.prog 22 → k ∈ DataW.weightsEach Try.prog ts ds := fun i di h1 h2 k hk => by
    refine DataW.weights_mem_each ht hd _ ?_
    simp only [DataW.weights, Try.underlying32]
    refine DataW.weights_mem_each (j := 1) (t := 28) rfl rfl _ ?_
    simp only [DataW.weights, Try.underlying28]
    exact DataW.weights_mem_each h2 h1 _ hk
  exact ⟨⟨in_ok i0 hsz (f 0 _ rfl rfl), in_ok i1 hsz (f 1 _ rfl rfl), in_ok i2 hsz (f 2 _ rfl rfl), in_ok i3 hsz (f 3 _ rfl rfl)⟩, in_ok j0 hsz (g 0 _ rfl rfl), in_ok j1 hsz (g 1 _ rfl rfl), in_ok j2 hsz (g 2 _ rfl rfl)⟩
end
/-- a shape whose lists are read is one whose sizes are asked -/
def Sta.sh (x : Sta) : Sh := ⟨⟨x.occ.A, x.occ.l.length, x.occ.c⟩, ⟨x.pos.A, x.pos.l.length, x.pos.c⟩, ⟨x.shut.A, x.shut.l.length, x.shut.c⟩, ⟨x.lamp.A, x.lamp.l.length, x.lamp.c⟩⟩
theorem Sta.Ok.sh {w : World} {x : Sta} (h : x.Ok w) : x.sh.Ok := ⟨h.occ.le, h.pos.le, h.shut.le, h.lamp.le⟩
end Go.Proofs.Ytmohefkingnknaa.Te

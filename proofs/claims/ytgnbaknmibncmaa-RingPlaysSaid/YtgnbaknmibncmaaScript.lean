/- How an argument that is a row of calls is read: its cells, its lists, their sizes. -/
import Derived.Test.YtgnbaknmibncmaaKeeps
import Derived.Test.YtgnbaknmibncmaaInts
import Derived.Deep.Slices
namespace Go.Proofs.Ytgnbaknmibncmaa
open Go.ChangeShapes Go.WideShapes Go.ChangeAt Go.RowKit Go.Deep

theorem Try.cellsOp : Try.prog.cellsOf 30 = 2 := by kernel_rfl
theorem Try.cellsBool : Try.prog.cellsOf 4 = 1 := by kernel_rfl
theorem Try.cellsList : Try.prog.cellsOf 28 = 1 := by kernel_rfl
theorem bytes_op : Try.prog.bytesOf 30 = 32 := by kernel_rfl

/-- a call of the row: Take or not, and the list, as it lies -/
structure Opr where
  t : Bool
  A : Option Addr
  c : Nat
  l : List Int
instance : Inhabited Opr := ⟨⟨false, none, 0, []⟩⟩
/-- the list of a call, as it is read -/
def Opr.ok (w : World) (p : Opr) : Prop := Rd w p.A (cellsI p.l) ∧ p.l.length ≤ p.c ∧ p.c ≤ maxLen
/-- what the row reads of it -/
def Opr.data {H : Type} (p : Opr) (d : DataW H) : Prop := ∃ dl, d = .agg [.lit (.bool p.t), dl] ∧ ((dl = .nil ∧ p.l = []) ∨ ∃ rest, dl = .slice (lits .i64 p.l) rest)
/-- A row of calls that lies at A. -/
def Script (w : World) (A : Option Addr) (ps : List Opr) : Prop :=
  (0 < ps.length → ∃ g o, A = some ⟨g, o, none⟩ ∧ g < w.heap.size ∧ ∀ j (hj : j < ps.length), w.cell? ⟨g, o + j * 2, none⟩ = some (.bool ps[j].t) ∧ w.cell? ⟨g, o + j * 2 + 1, none⟩ = some (.slice ps[j].A ps[j].l.length ps[j].c)) ∧ ∀ p ∈ ps, p.ok w

section
variable {H : Type} {enc : TypeId × Value → H} {w : World} {base : Nat}
theorem op_of {n : Nat} {cs : List Value} {y : DataW H × List MemPlace} (h : DataW.trod enc Try.prog w 0 (fun _ => true) true n 30 cs = some y) :
    ∃ p : Opr, cs = [.bool p.t, .slice p.A p.l.length p.c] ∧ p.data y.1 ∧ p.ok w := by
  obtain ⟨xs, m, _, hx, hlen, hxl, hf⟩ := DataW.trod_struct Try.underlying30 h
  rw [Try.cellsOp] at hlen
  match cs, hlen with
  | [c0, c1], _ =>
    match xs, hxl with
    | [x0, x1], _ =>
      have h0 : DataW.trod enc Try.prog w 0 (fun _ => true) true m 4 (([c0, c1].drop 0).take (Try.prog.cellsOf 4)) = some x0 := hf 0 _ rfl
      have h1 : DataW.trod enc Try.prog w 0 (fun _ => true) true m 28 (([c0, c1].drop 1).take (Try.prog.cellsOf 28)) = some x1 := hf 1 _ rfl
      rw [Try.cellsBool] at h0
      rw [Try.cellsList] at h1
      obtain ⟨b, e0, d0⟩ := DataW.trod_bool Try.underlying4 (show DataW.trod enc Try.prog w 0 (fun _ => true) true m 4 [c0] = some x0 from h0)
      rcases open_ints Try.underlying28 Try.underlying3 Try.cellInt (show DataW.trod enc Try.prog w 0 (fun _ => true) true m 28 [c1] = some x1 from h1) with ⟨hcs, hd⟩ | ⟨a, len, cap, zs, hcs, _, hl, hm, hz, hd, hcell, _⟩
      · refine ⟨⟨b, none, 0, []⟩, by simp_all, ⟨.nil, ?_, .inl ⟨rfl, rfl⟩⟩, fun h => by simp [cellsI] at h, Nat.le_refl _, Nat.zero_le _⟩
        rw [hx, d0, hd]
        rfl
      · have hzc : zs.length = cap := by simpa using hz
        have hlen' : (zs.take len).length = len := by rw [List.length_take]; omega
        refine ⟨⟨b, some a, cap, zs.take len⟩, by rw [hlen']; simp_all, ⟨.slice (lits .i64 (zs.take len)) (lits .i64 (zs.drop len)), ?_, .inr ⟨_, rfl⟩⟩, rd_of fun i u hu => ?_, by rw [hlen']; exact hl, hm⟩
        · rw [hx, d0, hd]
          rfl
        · have hi : i < len := by
            have := (List.getElem?_eq_some_iff.1 hu).1
            rw [cellsI_length, hlen'] at this
            exact this
          rw [hcell i (by omega)]
          unfold cellsI at hu
          rw [List.getElem?_map, List.getElem?_take, if_pos hi, List.getElem?_eq_getElem (by omega)] at hu
          simp only [Option.map_some, Option.some.injEq] at hu
          rw [← hu, List.getD_eq_getElem?_getD, List.getElem?_eq_getElem (by omega)]
          rfl

theorem exists_fun {α : Type} [Inhabited α] {m : Nat} {Q : Nat → α → Prop} (h : ∀ i, i < m → ∃ a, Q i a) : ∃ f : Nat → α, ∀ i, i < m → Q i (f i) := by
  classical
  refine ⟨fun i => if hi : i < m then (h i hi).choose else default, fun i hi => ?_⟩
  simp only [hi, dif_pos]
  exact (h i hi).choose_spec

/-- A row of calls that came in: as a value, as cells, as data. -/
theorem open_script {v : Value} {d : DataW H} {ps : List MemPlace} (hv : Value.okWide Try.prog w .any base 22 v) (h : DataW.Trod enc Try.prog w 0 (fun _ => true) true 22 v d ps) :
    ∃ (A : Option Addr) (c : Nat) (l : List Opr), v = .slice A l.length c ∧ Script w A l ∧
      ((d = .nil ∧ l = []) ∨ ∃ es rest, d = .slice es rest ∧ es.length = l.length ∧ ∀ i (hi : i < l.length), ∃ x, es[i]? = some x ∧ l[i].data x) := by
  obtain ⟨a0, len0, cap0, rfl⟩ := okWide_slice Try.underlying22 hv
  obtain ⟨fuel, hf⟩ := h
  rcases open_slice Try.underlying22 hf with ⟨hcs, hx⟩ | ⟨a, len, cap, m, n, D, Pl, hcs, hb, hl, hm, hmm, hx, hi⟩
  · simp only [Value.cells, List.cons.injEq, Value.slice.injEq, and_true] at hcs
    obtain ⟨rfl, rfl, rfl⟩ := hcs
    simp only [Prod.mk.injEq] at hx
    exact ⟨none, 0, [], rfl, ⟨fun h => by simp at h, by simp⟩, .inl ⟨hx.1, rfl⟩⟩
  · simp only [Value.cells, List.cons.injEq, Value.slice.injEq, and_true] at hcs
    obtain ⟨rfl, rfl, rfl⟩ := hcs
    have hmc : m = cap0 := by simpa using hmm
    subst hmc
    rw [Try.cellsOp] at hi
    have hq : ∀ i, i < len0 → ∃ p : Opr, (∀ j, j < 2 → w.cell? ((a.add (i * 2)).add j) = [Value.bool p.t, .slice p.A p.l.length p.c][j]?) ∧ p.data (D i) ∧ p.ok w := by
      intro i hil
      obtain ⟨cs', hc, ht⟩ := hi i (by omega)
      obtain ⟨p, rfl, hd, hs⟩ := op_of ht
      exact ⟨p, (World.cells?_some hc).2.2, hd, hs⟩
    obtain ⟨f, hfn⟩ := exists_fun hq
    simp only [Prod.mk.injEq] at hx
    refine ⟨some a, m, (List.range len0).map f, by simp, ⟨?_, ?_⟩, .inr ⟨_, _, hx.1, by simp, fun i hi' => ?_⟩⟩
    · intro hpos
      have hp0 : 0 < len0 := by simpa using hpos
      have h00 := (hfn 0 hp0).1 0 (by decide)
      have e0 : (a.add (0 * 2)).add 0 = a := by simp [Addr.add]
      rw [e0] at h00
      have hspot := World.cell?_spot h00
      obtain ⟨g, o, spot⟩ := a
      simp only at hspot
      subst hspot
      refine ⟨g, o, rfl, World.block_lt_of_cell? w ⟨g, o, none⟩ h00, fun j hj => ?_⟩
      have hj' : j < len0 := by simpa using hj
      have hc := (hfn j hj').1
      have c0 := hc 0 (by decide)
      have c1 := hc 1 (by decide)
      simp only [add_plain] at c0 c1
      simp only [List.getElem_map, List.getElem_range]
      exact ⟨by simpa using c0, by simpa using c1⟩
    · intro t ht
      obtain ⟨i, hi', rfl⟩ := List.mem_map.1 ht
      exact (hfn i (by simpa using hi')).2.2
    · have hil : i < len0 := by simpa using hi'
      refine ⟨D i, by simp [hil], ?_⟩
      simp only [List.getElem_map, List.getElem_range]
      exact (hfn i hil).2.1
end

theorem weights_all {H : Type} {P : Program} {e : TypeId} : ∀ {es : List (DataW H)} {i : Nat} {x : DataW H} {n : Nat}, es[i]? = some x → n ∈ x.weights P e → n ∈ DataW.weightsAll P e es
  | y :: es, 0, x, n, h, hn => by
    simp only [List.getElem?_cons_zero, Option.some.injEq] at h
    subst h
    simp only [DataW.weightsAll, List.mem_append]
    exact .inl hn
  | y :: es, i + 1, x, n, h, hn => by
    simp only [List.getElem?_cons_succ] at h
    simp only [DataW.weightsAll, List.mem_append]
    exact .inr (weights_all h hn)
  | [], _, _, _, h, _ => by simp at h
/-- the sizes of a row's lists -/
theorem script_sizes {H : Type} {ts : List TypeId} {ds : List (DataW H)} (hsz : (DataW.weightsEach Try.prog ts ds).all (· ≤ reachBytes) = true) {j : Nat} {d : DataW H} {l : List Opr} (ht : ts[j]? = some 22) (hd : ds[j]? = some d)
    (h : (d = .nil ∧ l = []) ∨ ∃ es rest, d = .slice es rest ∧ es.length = l.length ∧ ∀ i (hi : i < l.length), ∃ x, es[i]? = some x ∧ l[i].data x) : l.length * 32 ≤ 140737488351232 ∧ ∀ p ∈ l, p.l.length * 8 ≤ 140737488351232 := by
  rcases h with ⟨_, rfl⟩ | ⟨es, rest, rfl, hlen, hx⟩
  · simp
  · refine ⟨?_, fun p hp => ?_⟩
    · have := sized_slice hsz ht hd Try.underlying22
      rw [bytes_op] at this
      unfold reachBytes at this
      omega
    · obtain ⟨i, hi, rfl⟩ := List.mem_iff_getElem.1 hp
      obtain ⟨x, hxi, dl, rfl, hdl⟩ := hx i hi
      rcases hdl with ⟨_, h0⟩ | ⟨r, rfl⟩
      · rw [h0]; simp
      · have hm : (l[i].l.length + r.length) * 8 ∈ DataW.weightsEach Try.prog ts ds := by
          refine DataW.weights_mem_each ht hd _ ?_
          simp only [DataW.weights, Try.underlying22]
          refine List.mem_cons_of_mem _ (List.mem_append.2 (.inl (weights_all hxi ?_)))
          simp only [DataW.weights, Try.underlying30]
          simp only [List.map_cons, List.map_nil, DataW.weightsEach, DataW.weights, Try.underlying28, bytes_int, lits_len]
          simp
        have := List.all_eq_true.1 hsz _ hm
        simp only [decide_eq_true_eq] at this
        unfold reachBytes at this
        omega
end Go.Proofs.Ytgnbaknmibncmaa

/- Contracts and plain mathematics of earlier stages: Sort, Locks. -/
import Derived.Test.YtnnacdkijeoeoaaKw
import Derived.Test.YtnnacdkijeoeoaaShelfs
import Derived.Lib.OwnBridge
import Derived.Sort.OwnSortedInts
import Derived.Test.YtnnacdkijeoeoaaKa
namespace Go.Proofs.Ytnnacdkijeoeoaa
open Go.RowKit Go.Sort

theorem grow_nil (W : World) : grow W #[] = W := by
  cases W
  simp [grow]
theorem fr_putRow {w : World} {g n : Nat} {os : Array Obj} (d : Array Int) : Fr (fun k => k = g) w (grow (putRow (Value.int .i64) (Sort.ahead w n) g 0 d) os) :=
  (Fr.refl _ w).grown (grownBy_sortedI d) fun k hk => .inl (by injection hk with hk; exact hk.symm)

/-- Whole numbers in memory of the call's own. -/
def Nums (w : World) (L : List Int) (e : Ending) (w' : World) : Prop := ∃ A c, e = .returned (.slice A L.length c) ∧ w'.ownsRow w.heap.size 3 1 (.slice A L.length c) L.length (L.map (Value.int .i64)) ∧ Fr (fun _ => False) w w'

theorem rd_getD {w : World} {b o : Nat} {l : List Int} (h : Rd w (some ⟨b, o, none⟩) (l.map (Value.int .i64))) : ∀ j, j < l.length → w.cell? ⟨b, o + j, none⟩ = some (.int .i64 (l.getD j 0)) := by
  intro j hj
  obtain ⟨g, o', e, hc⟩ := rd_int h hj
  injection e with e
  injection e with e1 e2
  subst e1 e2
  rw [hc, List.getD_eq_getElem?_getD, List.getElem?_eq_getElem hj]
  rfl
theorem clone_any {A : Option Addr} {c : Nat} {l : List Int} (w : World) (h : Rd w A (l.map (Value.int .i64))) (hb : l.length * 8 ≤ 140737488355328) :
    Calls Try.prog 25 #[.slice A l.length c] w (Nums w l) := by
  rcases Nat.eq_zero_or_pos l.length with h0 | h0
  · obtain rfl : l = [] := List.eq_nil_of_length_eq_zero h0
    rcases A with _ | a
    · exact (Try.slices_Clone_int_nil 0 c w).mono fun e w' ⟨he, hw⟩ => ⟨none, 0, he, World.ownsRow_nil _ _ _ _, hw ▸ Fr.refl _ _⟩
    · refine (Try.slices_Clone_int_zero a c w).mono ?_
      rintro e w' ⟨v', rfl, hown, _, hf⟩
      obtain ⟨A', c', rfl, _⟩ := wide_form hown
      exact ⟨A', c', rfl, hown, Fr.ofBelow hf⟩
  · obtain ⟨b, o, rfl, _, _⟩ := h (by simpa using h0)
    refine (Try.slices_Clone_int b o l.length c l w (Nat.le_refl _) hb (rd_getD h)).mono ?_
    rintro e w' ⟨v', rfl, hown, _, hf⟩
    rw [List.take_length] at hown
    obtain ⟨A', c', rfl, _⟩ := wide_form hown
    exact ⟨A', c', rfl, hown, Fr.ofBelow hf⟩

def sortM (l : List Int) : List Int := l.mergeSort fun x y => decide (x ≤ y)
theorem sortM_length (l : List Int) : (sortM l).length = l.length := List.length_mergeSort _
def locksM (r : Rt) : List Int := Lib.compact (sortM (rawLocks r))
theorem sortM_le (l : List Int) : (sortM l).Pairwise (· ≤ ·) := by
  have h := List.pairwise_mergeSort (le := fun x y : Int => decide (x ≤ y)) (by intro a b c h1 h2; simp only [decide_eq_true_eq] at *; omega) (by intro a b; simp only [Bool.or_eq_true, decide_eq_true_eq]; omega) l
  exact h.imp fun h => by simpa using h
theorem sortM_mem (l : List Int) (x : Int) : x ∈ sortM l ↔ x ∈ l := (List.mergeSort_perm l _).mem_iff
theorem compact_keeps (l : List Int) (j : Nat) : Lib.keeps l.toArray j = decide (j = 0 ∨ l[j]! ≠ l[j - 1]!) := by
  unfold Lib.keeps
  simp
theorem compact_mem (l : List Int) (x : Int) : x ∈ Lib.compact l ↔ x ∈ l := by
  unfold Lib.compact Lib.compactUpTo
  simp only [List.mem_map, List.mem_filter, List.mem_range]
  constructor
  · rintro ⟨j, ⟨hj, _⟩, rfl⟩
    have : l.toArray[j]! = l[j] := by simp [hj]
    rw [this]
    exact List.getElem_mem hj
  · intro hx
    obtain ⟨j, hj, e⟩ := List.getElem_of_mem hx
    induction j with
    | zero => exact ⟨0, ⟨hj, by simp [Lib.keeps]⟩, by simp [hj, e]⟩
    | succ j ih =>
      by_cases hk : l[j]'(by omega) = x
      · exact ih (by omega) hk
      · refine ⟨j + 1, ⟨hj, ?_⟩, by simp [hj, e]⟩
        rw [compact_keeps]
        have h1 : l[j + 1]! = x := by simp [hj, e]
        have h2 : l[j]! = l[j]'(by omega) := by simp [show j < l.length by omega]
        rw [Nat.add_sub_cancel, h1, h2]
        simp
        exact fun h => hk h.symm
theorem compact_lt {l : List Int} (h : l.Pairwise (· ≤ ·)) : (Lib.compact l).Pairwise (· < ·) := by
  unfold Lib.compact Lib.compactUpTo
  rw [List.pairwise_map]
  have hr : ((List.range l.length).filter (Lib.keeps l.toArray)).Pairwise (· < ·) := (List.pairwise_lt_range).filter _
  refine hr.imp_of_mem ?_
  intro i j hi hj hij
  simp only [List.mem_filter, List.mem_range] at hi hj
  obtain ⟨hi, _⟩ := hi
  obtain ⟨hj, hk⟩ := hj
  rw [compact_keeps, decide_eq_true_eq] at hk
  have e1 : l.toArray[i]! = l[i] := by simp [hi]
  have e2 : l.toArray[j]! = l[j] := by simp [hj]
  rw [e1, e2]
  have h1 := List.pairwise_iff_getElem.1 h
  rcases hk with hk | hk
  · omega
  · have e3 : l[j]! = l[j] := by simp [hj]
    have e4 : l[j - 1]! = l[j - 1]'(by omega) := by simp [show j - 1 < l.length by omega]
    rw [e3, e4] at hk
    have h2 := h1 (j - 1) j (by omega) hj (by omega)
    have h3 : l[i] ≤ l[j - 1]'(by omega) := by
      by_cases he : i = j - 1
      · subst he; exact Int.le_refl _
      · exact h1 i (j - 1) hi (by omega) (by omega)
    omega
theorem locksM_lt (r : Rt) : (locksM r).Pairwise (· < ·) := compact_lt (sortM_le _)
theorem locksM_mem (r : Rt) (x : Int) : x ∈ locksM r ↔ x ∈ rawLocks r := (compact_mem _ x).trans (sortM_mem _ x)
theorem locksM_short (r : Rt) : (locksM r).length ≤ (rawLocks r).length := by
  have := Lib.compact_length_le (sortM (rawLocks r))
  rw [sortM_length] at this
  exact this
/-- two strictly rising lists of the same numbers are one -/
theorem rising_eq : ∀ {a b : List Int}, a.Pairwise (· < ·) → b.Pairwise (· < ·) → (∀ x, x ∈ a ↔ x ∈ b) → a = b
  | [], [], _, _, _ => rfl
  | [], y :: b, _, _, h => by have := (h y).2 (by simp); simp at this
  | x :: a, [], _, _, h => by have := (h x).1 (by simp); simp at this
  | x :: a, y :: b, ha, hb, h => by
    rw [List.pairwise_cons] at ha hb
    have hxy : x = y := by
      have h1 := (h x).1 (by simp)
      have h2 := (h y).2 (by simp)
      rcases List.mem_cons.1 h1 with h1 | h1
      · exact h1
      · rcases List.mem_cons.1 h2 with h2 | h2
        · exact h2.symm
        · have := hb.1 _ h1
          have := ha.1 _ h2
          omega
    subst hxy
    rw [rising_eq ha.2 hb.2 fun z => ?_]
    constructor
    · intro hz
      rcases List.mem_cons.1 ((h z).1 (List.mem_cons_of_mem _ hz)) with e | e
      · have := ha.1 _ hz
        omega
      · exact e
    · intro hz
      rcases List.mem_cons.1 ((h z).2 (List.mem_cons_of_mem _ hz)) with e | e
      · have := hb.1 _ hz
        omega
      · exact e
end Go.Proofs.Ytnnacdkijeoeoaa

namespace Go.Proofs.Ytnnacdkijeoeoaa
open Go.RowKit

theorem ro_cells {w : World} {b : Nat} {t : TypeId} {r : Ro} {v : Value} (h : Is w b t #[.int .i64 r.entry, .int .i64 r.exit, .slice r.a1 r.path.length r.c1, .slice r.a2 r.flank.length r.c2, .slice r.a3 r.over.length r.c3, v]) :
    w.cell? ⟨b, 0, none⟩ = some (.int .i64 r.entry) ∧ w.cell? ⟨b, 1, none⟩ = some (.int .i64 r.exit) ∧ w.cell? ⟨b, 2, none⟩ = some (.slice r.a1 r.path.length r.c1) ∧ w.cell? ⟨b, 3, none⟩ = some (.slice r.a2 r.flank.length r.c2) ∧
    w.cell? ⟨b, 4, none⟩ = some (.slice r.a3 r.over.length r.c3) ∧ w.cell? ⟨b, 5, none⟩ = some v :=
  ⟨h.cell 0, h.cell 1, h.cell 2, h.cell 3, h.cell 4, h.cell 5⟩

/-- the route of a number; the approach -/
def apR (C : Cm) (k : Int) : Int := if isSecB C.rs.length k = true then apM C.sg (C.rs.getD k.toNat default).entry else -1
def locksR (C : Cm) (k : Int) : List Int := if isSecB C.rs.length k = true then locksM (C.rs.getD k.toNat default).rt else []
theorem rs_at {C : Cm} {k : Nat} (h : k < C.rs.length) : C.rs.getD k default = C.rs[k] := by
  rw [List.getD_eq_getElem?_getD, List.getElem?_eq_getElem h]
  rfl

set_option maxHeartbeats 1000000 in
theorem appr_any (C : Cm) (k : Int) (w : World) (h : C.Ok w) :
    Calls Try.prog 65 #[C.val, .int .i64 k] w fun e w' => e = .returned (.int .i64 (apR C k)) ∧ Fr (fun _ => False) w w' := by
  have K := fun W => hasr_any (A := C.A5) (c := C.c5) (n := C.rs.length) k W
  unfold apR
  cases hs : isSecB C.rs.length k
  · rw [hs] at K
    rw [if_neg (by decide)]
    clear hs
    unfold Cm.val Cm.arr
    go_enter Try.func65, Try.ntmps65
    go_wp2_with fail
    refine (K _).mono ?_
    rintro e w1 ⟨rfl, rfl⟩
    go_wp2_with fail
    go_ret
    exact ⟨rfl, (Fr.refl _ _).alloc _⟩
  · rw [hs] at K
    obtain ⟨j, rfl, hlt⟩ := isSecB_true hs
    rw [if_pos rfl, Int.toNat_natCast, rs_at hlt]
    have KA := fun W (f : Fr (fun _ => False) w W) => approach_any C C.rs[j] W (h.fr f)
    obtain ⟨g, o, hA, q0, q1, q2, q3, q4, q5⟩ := rd_ro h.rts hlt
    have hg := World.block_lt_of_cell? _ ⟨g, o + j * 6, none⟩ q0
    clear hs h
    generalize apM C.sg C.rs[j].entry = ap at *
    generalize C.rs[j] = r at *
    unfold Cm.val Cm.arr at *
    unfold Ro.val at KA
    rw [hA] at K KA ⊢
    clear hA
    go_enter Try.func65, Try.ntmps65
    go_wp2_with fail
    refine (K _).mono ?_
    rintro e w1 ⟨rfl, rfl⟩
    go_wp2_with fail
    have f0 : Fr (fun _ => False) w (w.alloc (.cells #[.slice C.A1 C.l.length C.c1, .slice C.A2 C.js.length C.c2, .slice C.A3 C.sg.length C.c3, .slice C.A4 C.cr.length C.c4, .slice (some ⟨g, o, none⟩) C.rs.length C.c5, .int .i64 C.tm.age, .int .i64 C.tm.brake, .int .i64 C.tm.hold, .int .i64 C.tm.budget] 30)) := (Fr.refl _ _).alloc _
    have isc := Is.new w 30 #[.slice C.A1 C.l.length C.c1, .slice C.A2 C.js.length C.c2, .slice C.A3 C.sg.length C.c3, .slice C.A4 C.cr.length C.c4, .slice (some ⟨g, o, none⟩) C.rs.length C.c5, .int .i64 C.tm.age, .int .i64 C.tm.brake, .int .i64 C.tm.hold, .int .i64 C.tm.budget]
    have e0 := (f0.cell (p := ⟨g, o + j * 6, none⟩) hg id).trans q0
    have e1 := (f0.cell (p := ⟨g, o + j * 6 + 1, none⟩) hg id).trans q1
    have e2 := (f0.cell (p := ⟨g, o + j * 6 + 2, none⟩) hg id).trans q2
    have e3 := (f0.cell (p := ⟨g, o + j * 6 + 3, none⟩) hg id).trans q3
    have e4 := (f0.cell (p := ⟨g, o + j * 6 + 4, none⟩) hg id).trans q4
    have e5 := (f0.cell (p := ⟨g, o + j * 6 + 5, none⟩) hg id).trans q5
    clear q0 q1 q2 q3 q4 q5
    generalize hW : (w.alloc (.cells #[.slice C.A1 C.l.length C.c1, .slice C.A2 C.js.length C.c2, .slice C.A3 C.sg.length C.c3, .slice C.A4 C.cr.length C.c4, .slice (some ⟨g, o, none⟩) C.rs.length C.c5, .int .i64 C.tm.age, .int .i64 C.tm.brake, .int .i64 C.tm.hold, .int .i64 C.tm.budget] 30)) = W0 at f0 isc e0 e1 e2 e3 e4 e5 ⊢
    clear hW K
    have p0 := cell_fro (isc.cell 0)
    have p1 := cell_fro (isc.cell 1)
    have p2 := cell_fro (isc.cell 2)
    have p3 := cell_fro (isc.cell 3)
    have p4 := cell_fro (isc.cell 4)
    have p5 := cell_fro (isc.cell 5)
    have p6 := cell_fro (isc.cell 6)
    have p7 := cell_fro (isc.cell 7)
    have p8 := cell_fro (isc.cell 8)
    have q0 := cell_fro e0
    have q1 := cell_fro e1
    have q2 := cell_fro e2
    have q3 := cell_fro e3
    have q4 := cell_fro e4
    have q5 := cell_fro e5
    clear e0 e1 e2 e3 e4 e5
    refine region_fro (by kernel_rfl) (by kernel_rfl) ?_
    repeat (go_big_quiet_step ((go_at_call 61; exact call_fro (KA _ (fr_nil f0 (Fro.f _))))))
    refine wpQuiet_nil ?_
    rintro _ ⟨⟨w6, f6⟩, rfl⟩
    clear p0 p1 p2 p3 p4 p5 p6 p7 p8 q0 q1 q2 q3 q4 q5 KA
    go_wp2_with fail
    go_ret
    exact ⟨rfl, fr_nil f0 f6⟩
end Go.Proofs.Ytnnacdkijeoeoaa


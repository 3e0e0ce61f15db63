/- Contracts and plain mathematics of earlier stages: Textc, Rsg, Rcs. -/
import Derived.Deep.RegionHeld3
import Derived.Test.YtnnacdkijeoeoaaKy
import Derived.Deep.LoopGhost
namespace Go.Proofs.Ytnnacdkijeoeoaa
open Go.RowKit

theorem conf_cells {C : Cm} {w : World} {b : Nat} (h : Is w b 30 C.arr) : w.cell? ⟨b, 0, none⟩ = some (.slice C.A1 C.l.length C.c1) ∧ w.cell? ⟨b, 1, none⟩ = some (.slice C.A2 C.js.length C.c2) ∧ w.cell? ⟨b, 2, none⟩ = some (.slice C.A3 C.sg.length C.c3) ∧ w.cell? ⟨b, 3, none⟩ = some (.slice C.A4 C.cr.length C.c4) ∧ w.cell? ⟨b, 4, none⟩ = some (.slice C.A5 C.rs.length C.c5) ∧ w.cell? ⟨b, 5, none⟩ = some (.int .i64 C.tm.age) ∧ w.cell? ⟨b, 6, none⟩ = some (.int .i64 C.tm.brake) ∧ w.cell? ⟨b, 7, none⟩ = some (.int .i64 C.tm.hold) ∧ w.cell? ⟨b, 8, none⟩ = some (.int .i64 C.tm.budget) :=
  ⟨h.cell 0, h.cell 1, h.cell 2, h.cell 3, h.cell 4, h.cell 5, h.cell 6, h.cell 7, h.cell 8⟩

end Go.Proofs.Ytnnacdkijeoeoaa

namespace Go.Proofs.Ytnnacdkijeoeoaa
open Go.RowKit

/-- the document's check of the signals ahead -/
def rsigsL (js : List Jo) (all : List Sg) : List Sg → Int → Bool
  | [], _ => true
  | x :: r, i => nextOk js x.sec x.fin && (!atL x.sec x.fin i all 0 && rsigsL js all r (i + 1))
/-- and it is the program's -/
theorem atL_none (s e b : Int) : ∀ (l : List Sg) (i : Int), atL s e b l i = false ↔ ∀ (k : Nat) (hk : k < l.length), l[k].sec = s → l[k].fin = e → i + k = b
  | [], _ => by simp [atL]
  | x :: r, i => by
    rw [atL, Bool.or_eq_false_iff, atL_none s e b r (i + 1)]
    constructor
    · rintro ⟨h1, h2⟩ k hk hs he
      cases k with
      | zero =>
        simp only [List.getElem_cons_zero] at hs he
        simp [hs, he] at h1
        simpa using h1
      | succ k =>
        simp only [List.getElem_cons_succ] at hs he
        have := h2 k (by simpa using hk) hs he
        omega
    · intro h
      refine ⟨?_, fun k hk hs he => ?_⟩
      · have := h 0 (by simp)
        simp only [List.getElem_cons_zero] at this
        by_cases h1 : x.sec = s
        · by_cases h2 : x.fin = e
          · have := this h1 h2
            simp only [Int.natCast_zero, Int.add_zero] at this
            simp [h1, h2, this]
          · simp [h1, h2]
        · simp [h1]
      · have := h (k + 1) (by simp; omega)
        simp only [List.getElem_cons_succ] at this
        have := this hs he
        omega
theorem rsigsL_iff (js : List Jo) (all : List Sg) : ∀ (l : List Sg) (i : Int), rsigsL js all l i = true ↔ ∀ (k : Nat) (hk : k < l.length), nextOk js l[k].sec l[k].fin = true ∧ atL l[k].sec l[k].fin (i + k) all 0 = false
  | [], _ => by simp [rsigsL]
  | x :: r, i => by
    rw [rsigsL, Bool.and_eq_true, Bool.and_eq_true, Bool.not_eq_true', rsigsL_iff js all r (i + 1)]
    constructor
    · rintro ⟨h1, h2, h3⟩ k hk
      cases k with
      | zero => simp only [List.getElem_cons_zero, Int.natCast_zero, Int.add_zero]; exact ⟨h1, h2⟩
      | succ k =>
        have := h3 k (by simpa using hk)
        simp only [List.getElem_cons_succ]
        rw [show i + ((k + 1 : Nat) : Int) = i + 1 + (k : Int) by omega]
        exact this
    · intro h
      have h0 := h 0 (by simp)
      simp only [List.getElem_cons_zero, Int.natCast_zero, Int.add_zero] at h0
      refine ⟨h0.1, h0.2, fun k hk => ?_⟩
      have := h (k + 1) (by simp; omega)
      simp only [List.getElem_cons_succ] at this
      rw [show i + ((k + 1 : Nat) : Int) = i + 1 + (k : Int) by omega] at this
      exact this
theorem sigsB_iff (js : List Jo) : ∀ (l : List Sg), sigsB js l = true ↔ (∀ x ∈ l, nextOk js x.sec x.fin = true) ∧ l.Nodup
  | [] => by simp [sigsB]
  | x :: r => by
    rw [sigsB, Bool.and_eq_true, Bool.and_eq_true, Bool.not_eq_true', sigsB_iff js r, List.nodup_cons]
    simp only [List.mem_cons, forall_eq_or_imp, List.contains_eq_mem, decide_eq_false_iff_not]
    exact ⟨fun ⟨a, b, c, d⟩ => ⟨⟨a, c⟩, b, d⟩, fun ⟨⟨a, c⟩, b, d⟩ => ⟨a, b, c, d⟩⟩
theorem sigs_ref (js : List Jo) (sg : List Sg) : rsigsL js sg sg 0 = sigsB js sg := by
  rw [Bool.eq_iff_iff, rsigsL_iff, sigsB_iff]
  simp only [atL_none]
  constructor
  · intro h
    refine ⟨fun x hx => ?_, ?_⟩
    · obtain ⟨k, hk, rfl⟩ := List.getElem_of_mem hx
      exact (h k hk).1
    · rw [List.nodup_iff_pairwise_ne, List.pairwise_iff_getElem]
      intro a b ha hb hab e
      have := (h a ha).2 b hb (by rw [e]) (by rw [e])
      omega
  · rintro ⟨h1, h2⟩ k hk
    refine ⟨h1 _ (List.getElem_mem hk), fun j hj hs he => ?_⟩
    rw [List.nodup_iff_pairwise_ne, List.pairwise_iff_getElem] at h2
    have e : sg[j] = sg[k] := by
      generalize sg[j] = a at *
      generalize sg[k] = b at *
      obtain ⟨a1, a2⟩ := a
      obtain ⟨b1, b2⟩ := b
      dsimp only at *
      rw [hs, he]
    rcases Nat.lt_trichotomy j k with hlt | rfl | hlt
    · exact absurd e (h2 j k hj hk hlt)
    · omega
    · exact absurd e.symm (h2 k j hk hj hlt)

/-- the document's check of the crossings ahead -/
def rcrsL (l : List Sec) (all : List Int) : List Int → Nat → Bool
  | [], _ => true
  | s :: r, i => !decide (rkind l s < 0) && (decide (lineOf l s.toNat = 0) && (!inL (all.take i) s && rcrsL l all r (i + 1)))
theorem rd_take {w : World} {A : Option Addr} {l : List Int} (h : Rd w A (l.map (Value.int .i64))) (k : Nat) : Rd w A ((l.take k).map (Value.int .i64)) := fun h0 => by
  have e : (l.take k).map (Value.int .i64) = (l.map (Value.int .i64)).take k := List.map_take
  rw [e, List.length_take] at h0
  obtain ⟨g, o, rfl, hb, hc⟩ := h (by omega)
  refine ⟨g, o, rfl, hb, fun j u hu => hc j u ?_⟩
  rw [e, List.getElem?_take] at hu
  split at hu
  · exact hu
  · cases hu

end Go.Proofs.Ytnnacdkijeoeoaa

namespace Go.Proofs.Ytnnacdkijeoeoaa

theorem secs_each {l : List Sec} (h : sectionsB l = true) : ∀ x ∈ l, secOkB x = true := by
  induction l with
  | nil => intro x hx; cases hx
  | cons y r ih =>
    rw [sectionsB, Bool.and_eq_true] at h
    intro x hx
    rcases List.mem_cons.1 hx with rfl | hx
    · exact h.1
    · exact ih h.2 x hx
theorem kind_low {l : List Sec} (h : sectionsB l = true) (s : Int) : rkind l s < 0 ↔ isSecB l.length s = false := by
  unfold rkind
  cases hs : isSecB l.length s
  · simp
  · obtain ⟨k, rfl, hk⟩ := isSecB_true hs
    rw [if_pos rfl, Int.toNat_natCast, kindOf_at hk]
    have hx := secs_each h _ (List.getElem_mem hk)
    unfold secOkB at hx
    simp only [Bool.and_eq_true, Bool.not_eq_true', beq_eq_false_iff_ne] at hx
    have h0 := hx.1.1.1.1
    simp only [Bool.true_eq_false, iff_false]
    rcases kind_cases l[k].kind with e | e | e | e
    · omega
    · omega
    · omega
    · exfalso
      apply h0
      unfold endsM
      rw [if_neg e.1, if_neg e.2.1, if_neg e.2.2]
theorem rcrsL_iff (l : List Sec) (all : List Int) : ∀ (r : List Int) (i : Nat), rcrsL l all r i = true ↔ ∀ (k : Nat) (hk : k < r.length), ¬ rkind l r[k] < 0 ∧ lineOf l r[k].toNat = 0 ∧ inL (all.take (i + k)) r[k] = false
  | [], _ => by simp [rcrsL]
  | s :: r, i => by
    rw [rcrsL, Bool.and_eq_true, Bool.and_eq_true, Bool.and_eq_true, Bool.not_eq_true', Bool.not_eq_true', decide_eq_false_iff_not, decide_eq_true_eq, rcrsL_iff l all r (i + 1)]
    constructor
    · rintro ⟨h1, h2, h3, h4⟩ k hk
      cases k with
      | zero => simp only [List.getElem_cons_zero, Nat.add_zero]; exact ⟨h1, h2, h3⟩
      | succ k =>
        have := h4 k (by simpa using hk)
        simp only [List.getElem_cons_succ]
        rw [show i + (k + 1) = i + 1 + k by omega]
        exact this
    · intro h
      have h0 := h 0 (by simp)
      simp only [List.getElem_cons_zero, Nat.add_zero] at h0
      refine ⟨h0.1, h0.2.1, h0.2.2, fun k hk => ?_⟩
      have := h (k + 1) (by simp; omega)
      simp only [List.getElem_cons_succ] at this
      rw [show i + (k + 1) = i + 1 + k by omega] at this
      exact this
theorem crsB_iff (l : List Sec) : ∀ (r : List Int), crsB l r = true ↔ (∀ s ∈ r, isSecB l.length s = true ∧ lineOf l s.toNat = 0) ∧ r.Nodup
  | [] => by simp [crsB]
  | s :: r => by
    rw [crsB, Bool.and_eq_true, Bool.and_eq_true, Bool.and_eq_true, Bool.not_eq_true', decide_eq_true_eq, crsB_iff l r, List.nodup_cons]
    simp only [List.mem_cons, forall_eq_or_imp, List.contains_eq_mem, decide_eq_false_iff_not]
    exact ⟨fun ⟨a, b, c, d, e⟩ => ⟨⟨⟨a, b⟩, d⟩, c, e⟩, fun ⟨⟨⟨a, b⟩, d⟩, c, e⟩ => ⟨a, b, c, d, e⟩⟩
theorem crs_ref {l : List Sec} (h : sectionsB l = true) (cr : List Int) : rcrsL l cr cr 0 = crsB l cr := by
  rw [Bool.eq_iff_iff, rcrsL_iff, crsB_iff]
  constructor
  · intro hh
    refine ⟨fun s hs => ?_, ?_⟩
    · obtain ⟨k, hk, rfl⟩ := List.getElem_of_mem hs
      obtain ⟨a, b, _⟩ := hh k hk
      rw [kind_low h] at a
      exact ⟨by simpa using a, b⟩
    · rw [List.nodup_iff_pairwise_ne, List.pairwise_iff_getElem]
      intro a b ha hb hab e
      have h3 := (hh b hb).2.2
      have hm : cr[b] ∈ cr.take (0 + b) := by
        rw [← e, List.mem_take_iff_getElem]
        exact ⟨a, by omega, rfl⟩
      rw [← inL_iff] at hm
      rw [hm] at h3
      cases h3
  · rintro ⟨h1, h2⟩ k hk
    obtain ⟨a, b⟩ := h1 _ (List.getElem_mem hk)
    refine ⟨by rw [kind_low h, a]; simp, b, ?_⟩
    cases hin : inL (cr.take (0 + k)) cr[k] with
    | false => rfl
    | true =>
      rw [inL_iff, List.mem_take_iff_getElem] at hin
      obtain ⟨j, hj, e⟩ := hin
      rw [List.nodup_iff_pairwise_ne, List.pairwise_iff_getElem] at h2
      exact absurd e (h2 j k (by omega) hk (by omega))
end Go.Proofs.Ytnnacdkijeoeoaa


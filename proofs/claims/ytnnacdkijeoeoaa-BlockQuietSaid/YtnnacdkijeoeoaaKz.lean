/- Contracts and plain mathematics of earlier stages: Rck. -/
import Derived.Test.YtnnacdkijeoeoaaKo
import Derived.Test.YtnnacdkijeoeoaaKr
import Derived.Test.YtnnacdkijeoeoaaKy
import Derived.Deep.RegionHeld3
import Derived.Deep.LoopGhost
namespace Go.Proofs.Ytnnacdkijeoeoaa
open Go.RowKit

theorem last_of (x : St) (r : List St) : lastSt (x :: r) = (x :: r).getLast (by simp) := by
  unfold lastSt
  rw [List.getLast_eq_getElem, List.getD_eq_getElem?_getD, List.getElem?_eq_getElem (by simp)]
  rfl
/-- the document's check of a route is the program's -/
theorem rroute_ref {l : List Sec} {js : List Jo} {sg : List Sg} (r : Rt) (hj : jointsB l js = true) (hs : sigsB js sg = true) :
    (rpreB sg r && (rpathL l js sg r.exit r.shunt (sgAt sg r.entry).sec (sgAt sg r.entry).fin [(sgAt sg r.entry).sec] r.path && rfinB js sg r.exit (lastSt r.path))) = routeB l js sg r := by
  unfold rpreB routeB
  cases hen : isSecB sg.length r.entry
  · rfl
  simp only [Bool.true_and]
  cases hex : (decide (r.exit = -1) || isSecB sg.length r.exit)
  · rfl
  simp only [Bool.true_and]
  by_cases h1 : 1 ≤ r.path.length
  rotate_left
  · simp [h1]
  rw [decide_eq_true h1]
  simp only [Bool.true_and]
  by_cases h8 : r.path.length ≤ 8
  rotate_left
  · simp [h8]
  rw [decide_eq_true h8]
  simp only [Bool.true_and]
  obtain ⟨k, he, hk⟩ := isSecB_true hen
  rw [he, sgAt_nat hk]
  have hsec := sigs_in hj sg hs _ (List.getElem_mem hk)
  generalize sg[k] = g at *
  obtain ⟨m, hm, hml⟩ := isSecB_true hsec
  obtain ⟨gs, ge⟩ := g
  dsimp only at hm
  subst hm
  dsimp only
  have hx : r.exit = -1 ∨ isSecB sg.length r.exit = true := by
    rw [Bool.or_eq_true, decide_eq_true_eq] at hex
    exact hex
  obtain ⟨en, ex, path, flank, over, shunt⟩ := r
  dsimp only at *
  cases path with
  | nil => simp at h1
  | cons x q =>
    have key := path_ref (shunt := shunt) hj hs hx q x (m : Int) ge [(m : Int)] ((List.replicate l.length false).set m true) (by rw [List.length_set, List.length_replicate]) (fun j hjl => by
      rw [seenAt_set _ _ _ (by rw [List.length_replicate]; exact hml), seen_none]
      unfold inL
      by_cases e : m = j
      · simp [e]
      · have : ¬ (m : Int) = (j : Int) := by omega
        simp [e, this])
    rw [last_of, Int.toNat_natCast, show (x :: q).take ((x :: q).length - 1) = (x :: q).dropLast by rw [List.dropLast_eq_take]]
    rw [Bool.eq_iff_iff, Bool.and_eq_true, key]
    simp only [Bool.and_eq_true, Bool.not_eq_true']
    constructor
    · rintro ⟨a, b, c, d, e⟩
      exact ⟨a, b, ⟨c, d⟩, e⟩
    · rintro ⟨a, b, ⟨c, d⟩, e⟩
      exact ⟨a, b, c, d, e⟩
theorem check_sections {l : List Sec} {js : List Jo} (h : checkB l js = true) : sectionsB l = true ∧ jointsB l js = true := by
  unfold checkB at h
  simp only [Bool.and_eq_true] at h
  exact ⟨h.2.1, h.2.2.1⟩
theorem route_small {l : List Sec} {js : List Jo} {sg : List Sg} {r : Rt} (h : routeB l js sg r = true) : r.path.length ≤ 8 := by
  unfold routeB at h
  simp only [Bool.and_eq_true, decide_eq_true_eq] at h
  exact h.2.2.2.1
theorem conf_cells0 {w : World} {b : Nat} {v0 v1 v2 v3 v4 v5 v6 v7 v8 : Value} {t : TypeId} (h : Is w b t #[v0, v1, v2, v3, v4, v5, v6, v7, v8]) : w.cell? ⟨b, 0, none⟩ = some v0 ∧ w.cell? ⟨b, 1, none⟩ = some v1 ∧ w.cell? ⟨b, 2, none⟩ = some v2 ∧ w.cell? ⟨b, 3, none⟩ = some v3 ∧ w.cell? ⟨b, 4, none⟩ = some v4 ∧ w.cell? ⟨b, 5, none⟩ = some v5 ∧ w.cell? ⟨b, 6, none⟩ = some v6 ∧ w.cell? ⟨b, 7, none⟩ = some v7 ∧ w.cell? ⟨b, 8, none⟩ = some v8 :=
  ⟨h.cell 0, h.cell 1, h.cell 2, h.cell 3, h.cell 4, h.cell 5, h.cell 6, h.cell 7, h.cell 8⟩
theorem time_parts (t : Tm) : timeB t = ((decide (1 ≤ t.age) && decide (t.age ≤ 8)) && ((decide (0 ≤ t.brake) && decide (t.brake ≤ 8)) && ((decide (t.age + t.brake + 1 ≤ t.hold) && decide (t.hold ≤ 40)) && (decide (1 ≤ t.budget) && decide (t.budget ≤ 1000000))))) := rfl

end Go.Proofs.Ytnnacdkijeoeoaa


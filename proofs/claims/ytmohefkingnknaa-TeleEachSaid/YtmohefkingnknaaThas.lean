/- The contract of controller.has. -/
import Derived.Test.YtmohefkingnknaaTnums
namespace Go.Proofs.Ytmohefkingnknaa.Te
open Go.RowKit

def Cf.ctl (C : Cf) (oc : Int) : List Value := C.cells ++ [.int .i64 oc]
theorem ctl_cells {w : World} {b : Nat} {C : Cf} {oc : Int} (h : Is w b 93 (C.ctl oc).toArray) : w.cell? ⟨b, 0, none⟩ = some (.slice C.A1 C.l.length C.c1) ∧ w.cell? ⟨b, 9, none⟩ = some (.int .i64 oc) := ⟨(h.cell 0).trans rfl, (h.cell 9).trans rfl⟩

set_option maxHeartbeats 1000000 in
theorem has_any {w : World} {C : Cf} (hC : Rd w C.A1 (cellsS C.l)) (hl : C.l.length ≤ 17592186044416) (oc n : Int) :
    Calls Try.prog 51 #[.agg (C.ctl oc).toArray, .int .i64 n] w fun e w' => e = .returned (.bool (hasB C.l oc n)) ∧ Fr (fun _ => False) w w' := by
  have f0 : Fr (fun _ => False) w (w.alloc (.cells (C.ctl oc).toArray 93)) := (Fr.refl _ w).alloc _
  have hC' := hC.fr f0 fun _ _ => id
  obtain ⟨A1, c1, l, A2, n2, c2, A3, c3, sg, A4, c4, cr, A5, n5, c5, ⟨ta, tb, th, tu⟩⟩ := C
  obtain ⟨p0, p9⟩ := ctl_cells (Is.new w 93 (Cf.ctl ⟨A1, c1, l, A2, n2, c2, A3, c3, sg, A4, c4, cr, A5, n5, c5, ⟨ta, tb, th, tu⟩⟩ oc).toArray)
  unfold Cf.ctl Cf.cells at *
  simp only [List.cons_append, List.nil_append] at *
  have hl9 : (l.length : Int) ≤ 17592186044416 := by omega
  unfold hasB
  by_cases h0 : 0 ≤ n
  · obtain ⟨m, rfl⟩ : ∃ m : Nat, n = m := ⟨n.toNat, by omega⟩
    have d1 : decide (0 ≤ (m : Int)) = true := by simp
    rw [Int.toNat_natCast, d1, Bool.true_and]
    by_cases h1 : m < l.length
    · have d2 : decide ((m : Int) < (l.length : Int)) = true := by simpa using h1
      obtain ⟨g, o, rfl, _, q0, q1, q2⟩ := rd_sec hC' h1
      rw [List.getElem?_eq_getElem h1]
      simp only
      have b1 : (m : Int) < (l.length : Int) := by omega
      have b0 : (0 : Int) ≤ (m : Int) := by omega
      generalize l[m] = x at *
      by_cases h2 : x.oc = oc
      · have e1 : (x.oc == oc) = true := by simpa using h2
        rw [show decide (x.oc = oc) = true by simpa using h2]
        clear h2 hC hC' hl h0
        go_enter Try.func51, Try.ntmps51
        go_wp2_with fail
        go_quiet (fail)
        go_wp2
        go_ret
        exact ⟨rfl, f0.drewN nq⟩
      · have e1 : (x.oc == oc) = false := by simpa using h2
        rw [show decide (x.oc = oc) = false by simpa using h2]
        clear h2 hC hC' hl h0
        go_enter Try.func51, Try.ntmps51
        go_wp2_with fail
        go_quiet (fail)
        go_wp2
        go_ret
        exact ⟨rfl, f0.drewN nq⟩
    · have d2 : decide ((m : Int) < (l.length : Int)) = false := by simpa using h1
      rw [List.getElem?_eq_none (by omega)]
      clear hC hC' hl h0
      go_enter Try.func51, Try.ntmps51
      go_wp2_with fail
      go_quiet (fail)
      go_wp2
      go_ret
      exact ⟨rfl, f0.drewN nq⟩
  · have d1 : decide (0 ≤ n) = false := by simpa using h0
    rw [d1, Bool.false_and]
    clear hC hC' hl
    go_enter Try.func51, Try.ntmps51
    go_wp2_with fail
    go_quiet (fail)
    go_wp2
    go_ret
    exact ⟨rfl, f0.drewN nq⟩
end Go.Proofs.Ytmohefkingnknaa.Te

/- Contracts and plain mathematics of earlier stages: Ne. -/
import Derived.Test.YtnnacdkijeoeoaaNm
import Derived.Test.YtnnacdkijeoeoaaLfit3
import Derived.Test.YtnnacdkijeoeoaaKa
namespace Go.Proofs.Ytnnacdkijeoeoaa.Nk
open Go.RowKit Lk

/-- is the section clear, and was it so behind the cycle? -/
theorem clear1 {occ : List Lo} {s : Int} : [s].all (clrB occ) = clrB occ s := by simp
def seesB (c : Cf) (v : Vp) : Bool := decide (v.occ.length = c.secs.length) && (decide (v.pos.length = c.secs.length) && (decide (v.shut.length = c.crs.length) && decide (v.lamp.length = c.sigs.length)))
theorem nine0 {w : World} {b : Nat} {v0 v1 v2 v3 v4 v5 v6 v7 v8 : Value} {t : TypeId} (h : Is w b t #[v0, v1, v2, v3, v4, v5, v6, v7, v8]) : w.cell? ⟨b, 0, none⟩ = some v0 ∧ w.cell? ⟨b, 1, none⟩ = some v1 ∧ w.cell? ⟨b, 2, none⟩ = some v2 ∧ w.cell? ⟨b, 3, none⟩ = some v3 ∧ w.cell? ⟨b, 4, none⟩ = some v4 ∧ w.cell? ⟨b, 5, none⟩ = some v5 ∧ w.cell? ⟨b, 6, none⟩ = some v6 ∧ w.cell? ⟨b, 7, none⟩ = some v7 ∧ w.cell? ⟨b, 8, none⟩ = some v8 :=
  ⟨h.cell 0, h.cell 1, h.cell 2, h.cell 3, h.cell 4, h.cell 5, h.cell 6, h.cell 7, h.cell 8⟩
theorem four {w : World} {b : Nat} {v0 v1 v2 v3 : Value} {t : TypeId} (h : Is w b t #[v0, v1, v2, v3]) : w.cell? ⟨b, 0, none⟩ = some v0 ∧ w.cell? ⟨b, 1, none⟩ = some v1 ∧ w.cell? ⟨b, 2, none⟩ = some v2 ∧ w.cell? ⟨b, 3, none⟩ = some v3 :=
  ⟨h.cell 0, h.cell 1, h.cell 2, h.cell 3⟩
set_option maxRecDepth 100000 in
set_option maxHeartbeats 2000000 in
theorem sees_any (C : Cm) (V : Vm) (w : World) :
    Calls Try.prog 16 #[C.val, V.val] w fun e w' => e = .returned (.bool (seesB C.cf V.vp)) ∧ Fr (fun _ => False) w w' := by
  have HF0 := Lib.hid (((Fr.refl (fun _ => False) w).alloc (.cells C.arr 30)).alloc (.cells V.arr 40))
  unfold seesB
  show Calls _ _ _ _ fun e w' => e = .returned (.bool (decide (V.occ.length = C.l.length) && (decide (V.pos.length = C.l.length) && (decide (V.shut.length = C.cr.length) && decide (V.lamp.length = C.sg.length))))) ∧ _
  unfold Cm.val Vm.val Cm.arr Vm.arr at *
  by_cases h0 : V.occ.length = C.l.length
  rotate_left
  · have d0 : (((V.occ.length : Nat) : Int) == ((C.l.length : Nat) : Int)) = false := by rw [beq_eq_false_iff_ne]; omega
    rw [decide_eq_false h0]
    clear h0
    go_enter Try.func16, Try.ntmps16
    go_wp2_with fail
    go_ret
    exact ⟨by simp, HF0.out⟩
  have d0 : (((V.occ.length : Nat) : Int) == ((C.l.length : Nat) : Int)) = true := by rw [beq_iff_eq]; omega
  rw [decide_eq_true h0]
  clear h0
  by_cases h1 : V.pos.length = C.l.length
  rotate_left
  · have d1 : (((V.pos.length : Nat) : Int) == ((C.l.length : Nat) : Int)) = false := by rw [beq_eq_false_iff_ne]; omega
    rw [decide_eq_false h1]
    clear h1
    go_enter Try.func16, Try.ntmps16
    go_wp2_with fail
    go_ret
    exact ⟨by simp, HF0.out⟩
  have d1 : (((V.pos.length : Nat) : Int) == ((C.l.length : Nat) : Int)) = true := by rw [beq_iff_eq]; omega
  rw [decide_eq_true h1]
  clear h1
  by_cases h2 : V.shut.length = C.cr.length
  rotate_left
  · have d2 : (((V.shut.length : Nat) : Int) == ((C.cr.length : Nat) : Int)) = false := by rw [beq_eq_false_iff_ne]; omega
    rw [decide_eq_false h2]
    clear h2
    go_enter Try.func16, Try.ntmps16
    go_wp2_with fail
    go_ret
    exact ⟨by simp, HF0.out⟩
  have d2 : (((V.shut.length : Nat) : Int) == ((C.cr.length : Nat) : Int)) = true := by rw [beq_iff_eq]; omega
  rw [decide_eq_true h2]
  clear h2
  by_cases h3 : V.lamp.length = C.sg.length
  rotate_left
  · have d3 : (((V.lamp.length : Nat) : Int) == ((C.sg.length : Nat) : Int)) = false := by rw [beq_eq_false_iff_ne]; omega
    rw [decide_eq_false h3]
    clear h3
    go_enter Try.func16, Try.ntmps16
    go_wp2_with fail
    go_ret
    exact ⟨by simp, HF0.out⟩
  have d3 : (((V.lamp.length : Nat) : Int) == ((C.sg.length : Nat) : Int)) = true := by rw [beq_iff_eq]; omega
  rw [decide_eq_true h3]
  clear h3
  go_enter Try.func16, Try.ntmps16
  go_wp2_with fail
  go_ret
  exact ⟨rfl, HF0.out⟩
end Go.Proofs.Ytnnacdkijeoeoaa.Nk


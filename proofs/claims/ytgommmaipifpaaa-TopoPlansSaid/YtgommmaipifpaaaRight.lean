/- The contracts of what Check asks: the sizes, the sections, the joints, the lines. -/
import Derived.Test.YtgommmaipifpaaaGo
import Derived.Deep.RegionHeld3
namespace Go.Proofs.Ytgommmaipifpaaa
open Go.RowKit

def sizesB (l : List Sec) (js : List Jo) : Bool := decide (1 ≤ l.length) && decide (l.length ≤ 16) && decide (js.length ≤ 24)
def secOkB (s : Sec) : Bool := !(endsM s.kind == 0) && decide (0 ≤ s.oc) && decide (s.oc < 4) && decide (0 ≤ s.line) && decide (s.line ≤ 3)
def sectionsB : List Sec → Bool
  | [] => true
  | s :: r => secOkB s && sectionsB r
def joOkB (l : List Sec) (j : Jo) : Bool := !(j.a == j.b) && isEndB l j.a j.ae && isEndB l j.b j.be
def jointsB (l : List Sec) : List Jo → Bool
  | [] => true
  | j :: r => joOkB l j && (!nextOk r j.a j.ae && !nextOk r j.b j.be) && jointsB l r

theorem sizes_any {A1 A2 : Option Addr} {c1 c2 : Nat} (l : List Sec) (js : List Jo) (w : World) :
    Calls Try.prog 25 #[.slice A1 l.length c1, .slice A2 js.length c2] w fun e w' => e = .returned (.bool (sizesB l js)) ∧ w = w' := by
  unfold sizesB
  generalize l.length = n
  generalize js.length = m
  by_cases h1 : 1 ≤ n
  · rw [show decide (1 ≤ n) = true by simp [h1], Bool.true_and]
    by_cases h2 : n ≤ 16
    · rw [show decide (n ≤ 16) = true by simp [h2], Bool.true_and]
      by_cases h3 : m ≤ 24
      · rw [show decide (m ≤ 24) = true by simp [h3]]
        have e3 : decide ((m : Int) ≤ 24) = true := by simp; omega
        go_enter Try.func25, Try.ntmps25
        go_wp2
        go_ret
        exact ⟨rfl, rfl⟩
      · rw [show decide (m ≤ 24) = false by simp [h3]]
        have e3 : decide ((m : Int) ≤ 24) = false := by simp; omega
        clear h3
        go_enter Try.func25, Try.ntmps25
        go_wp2
        go_ret
        exact ⟨rfl, rfl⟩
    · rw [show decide (n ≤ 16) = false by simp [h2], Bool.false_and]
      have h4 : 16 < n := by omega
      clear h2
      go_enter Try.func25, Try.ntmps25
      go_wp2
      go_ret
      exact ⟨rfl, rfl⟩
  · rw [show decide (1 ≤ n) = false by simp; omega, Bool.false_and, Bool.false_and]
    have h4 : n < 1 := by omega
    clear h1
    go_enter Try.func25, Try.ntmps25
    go_wp2
    go_ret
    exact ⟨rfl, rfl⟩

theorem sec_tests (s : Sec) : (secOkB s = true ∧ (endsM s.kind == 0) = false ∧ 0 ≤ s.oc ∧ s.oc < 4 ∧ 0 ≤ s.line ∧ s.line ≤ 3) ∨
    (secOkB s = false ∧ (endsM s.kind == 0) = true) ∨ (secOkB s = false ∧ (endsM s.kind == 0) = false ∧ s.oc < 0) ∨ (secOkB s = false ∧ (endsM s.kind == 0) = false ∧ 0 ≤ s.oc ∧ 4 ≤ s.oc) ∨
    (secOkB s = false ∧ (endsM s.kind == 0) = false ∧ 0 ≤ s.oc ∧ s.oc < 4 ∧ s.line < 0) ∨ (secOkB s = false ∧ (endsM s.kind == 0) = false ∧ 0 ≤ s.oc ∧ s.oc < 4 ∧ 0 ≤ s.line ∧ 3 < s.line) := by
  unfold secOkB
  generalize (endsM s.kind == 0) = e
  cases e <;> simp <;> omega

set_option maxHeartbeats 2000000 in
theorem sections_any {A : Option Addr} {c : Nat} {l : List Sec} (w : World) (hr : Rd w A (cellsS l)) (hl : l.length ≤ 9223372036854775807) :
    Calls Try.prog 26 #[.slice A l.length c] w fun x w' => x = .returned (.bool (sectionsB l)) ∧ Fr (fun _ => False) w w' := by
  generalize hO : sectionsB l = O
  have HO := Lib.hid hO
  clear hO
  go_enter Try.func26, Try.ntmps26
  go_wp2_with fail
  go_loopw [7] (fun t wr => ∃ j : Nat, j ≤ l.length ∧ t = .int .i64 (j : Nat) ∧ sectionsB (l.drop j) = O ∧ Fr (fun _ => False) w wr) (fun t _ => l.length - (intOf t).toNat)
  case atStart => exact ⟨0, Nat.zero_le _, rfl, HO.out, Fr.refl _ _⟩
  case round =>
    clear HO
    obtain ⟨j, hj, rfl, hO, fr⟩ := hrel
    by_cases hlt : j < l.length
    · obtain ⟨g, o, rfl, c0, c1, c2⟩ := rd_sec (hr.fr fr fun _ _ => id) hlt
      rw [List.drop_eq_getElem_cons hlt, sectionsB] at hO
      generalize l[j] = v at *
      have ht := sec_tests v
      have KE := fun w => ends_any v.kind w
      generalize secOkB v = x at *
      obtain ⟨k, oc, ln⟩ := v
      simp only at *
      generalize endsM k = n at *
      clear hr
      rcases ht with ⟨rfl, h1, h2, h3, h4, h5⟩ | ⟨rfl, h1⟩ | ⟨rfl, h1, h2⟩ | ⟨rfl, h1, h2, h3⟩ | ⟨rfl, h1, h2, h3, h4⟩ | ⟨rfl, h1, h2, h3, h4, h5⟩
      · rw [Bool.true_and] at hO
        have HO := Lib.hid hO
        clear hO
        go_wp2_with fail
        refine (KE _).mono ?_
        clear KE
        rintro x w3 ⟨rfl, rfl⟩
        go_wp2_with fail
        go_roundw
        case rel => exact ⟨j + 1, by omega, by go_num, HO.out, fr.alloc _⟩
        case measure => simp [intOf]; omega
      all_goals
        rw [Bool.false_and] at hO
        subst hO
        go_wp2_with fail
        refine (KE _).mono ?_
        clear KE
        rintro x w3 ⟨rfl, rfl⟩
        go_wp2_with fail
        go_ret
        exact ⟨rfl, fr.alloc _⟩
    · have hjl : j = l.length := by omega
      subst hjl
      rw [List.drop_length] at hO
      have hO' : true = O := hO
      subst hO'
      clear hO
      go_wp2_with fail
      go_ret
      exact ⟨rfl, fr⟩

/-- the slice behind a place -/
theorem behind_slice {w : World} {A : Option Addr} {c : Nat} {js : List Jo} (h : Rd w A (cellsJ js)) (hc : js.length ≤ c) (i : Nat) (hi : i < js.length) (h63 : c ≤ 9223372036854775807) :
    ∃ A2 c2, (∀ W, (Instr.slice 23 (.slice A js.length c) (some (.int .i64 ((i : Int) + 1))) none none).run Try.prog W = .ok (.slice A2 (js.drop (i + 1)).length c2) W) ∧ Rd w A2 (cellsJ (js.drop (i + 1))) ∧ (js.drop (i + 1)).length ≤ c2 ∧ c2 ≤ 9223372036854775807 := by
  obtain ⟨g, o, rfl, hg, hcell⟩ := h (by rw [cellsJ_length]; omega)
  have hcut : cellsJ (js.drop (i + 1)) = (cellsJ js).drop ((i + 1) * 4) := by
    have e : cellsJ js = cellsJ (js.take (i + 1)) ++ cellsJ (js.drop (i + 1)) := by
      unfold cellsJ
      rw [← List.flatMap_append, List.take_append_drop]
    rw [e, List.drop_append_of_le_length (by rw [cellsJ_length, List.length_take]; omega), List.drop_of_length_le (l := cellsJ (js.take (i + 1))) (by rw [cellsJ_length, List.length_take]; omega), List.nil_append]
  rw [List.length_drop]
  by_cases hc1 : c = i + 1
  · subst hc1
    have hl : js.length = i + 1 := by omega
    refine ⟨some ⟨g, o, none⟩, 0, fun W => ?_, fun h0 => by rw [cellsJ_length, List.length_drop] at h0; omega, by omega, by omega⟩
    rw [hl, Nat.sub_self]
    have h0 : ¬ ((i : Int) + 1 < 0) := by omega
    have h2 : (((i : Int) + 1)).toNat = i + 1 := by omega
    go_simp
  · refine ⟨some ⟨g, o + (i + 1) * 4, none⟩, c - (i + 1), fun W => ?_, fun h0 => ⟨g, o + (i + 1) * 4, rfl, hg, fun j u hu => ?_⟩, by omega, by omega⟩
    · have h1 : ((i : Int) + 1) ≤ (js.length : Int) := by omega
      have h2 : ((js.length : Nat) : Int) ≤ (c : Int) := by omega
      have h0 : ¬ ((i : Int) + 1 < 0) := by omega
      have h4 : (((i : Int) + 1)).toNat = i + 1 := by omega
      go_simp
    · rw [hcut, List.getElem?_drop] at hu
      have := hcell _ u hu
      rw [Nat.add_assoc]
      exact this
end Go.Proofs.Ytgommmaipifpaaa

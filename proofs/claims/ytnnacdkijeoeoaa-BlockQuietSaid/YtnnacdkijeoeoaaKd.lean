/- Contracts and plain mathematics of earlier stages: Has, Part. -/
import Derived.Test.YtnnacdkijeoeoaaKc
import Derived.BigQuiet
namespace Go.Proofs.Ytnnacdkijeoeoaa
open Go.RowKit

theorem hasr_any {A : Option Addr} {c n : Nat} (s : Int) (w : World) : Calls Try.prog 81 #[.slice A n c, .int .i64 s] w fun e w' => e = .returned (.bool (isSecB n s)) ∧ w = w' := by
  unfold isSecB
  by_cases h1 : 0 ≤ s
  · rw [show decide (0 ≤ s) = true by simp [h1], Bool.true_and]
    by_cases h2 : s < n
    · rw [show decide (s < n) = true by simp [h2]]
      go_enter Try.func81, Try.ntmps81
      go_wp2
      go_ret
      exact ⟨rfl, rfl⟩
    · rw [show decide (s < n) = false by simp [h2]]
      have h3 : decide (s < n) = false := by simp [h2]
      clear h2
      go_enter Try.func81, Try.ntmps81
      go_wp2
      go_ret
      exact ⟨rfl, rfl⟩
  · rw [show decide (0 ≤ s) = false by simp [h1], Bool.false_and]
    have h3 : s < 0 := by omega
    clear h1
    go_enter Try.func81, Try.ntmps81
    go_wp2
    go_ret
    exact ⟨rfl, rfl⟩

theorem hass_any {A : Option Addr} {c n : Nat} (s : Int) (w : World) : Calls Try.prog 56 #[.slice A n c, .int .i64 s] w fun e w' => e = .returned (.bool (isSecB n s)) ∧ w = w' := by
  unfold isSecB
  by_cases h1 : 0 ≤ s
  · rw [show decide (0 ≤ s) = true by simp [h1], Bool.true_and]
    by_cases h2 : s < n
    · rw [show decide (s < n) = true by simp [h2]]
      go_enter Try.func56, Try.ntmps56
      go_wp2
      go_ret
      exact ⟨rfl, rfl⟩
    · rw [show decide (s < n) = false by simp [h2]]
      have h3 : decide (s < n) = false := by simp [h2]
      clear h2
      go_enter Try.func56, Try.ntmps56
      go_wp2
      go_ret
      exact ⟨rfl, rfl⟩
  · rw [show decide (0 ≤ s) = false by simp [h1], Bool.false_and]
    have h3 : s < 0 := by omega
    clear h1
    go_enter Try.func56, Try.ntmps56
    go_wp2
    go_ret
    exact ⟨rfl, rfl⟩

theorem hasg_any {A : Option Addr} {c n : Nat} (s : Int) (w : World) : Calls Try.prog 72 #[.slice A n c, .int .i64 s] w fun e w' => e = .returned (.bool (isSecB n s)) ∧ w = w' := by
  unfold isSecB
  by_cases h1 : 0 ≤ s
  · rw [show decide (0 ≤ s) = true by simp [h1], Bool.true_and]
    by_cases h2 : s < n
    · rw [show decide (s < n) = true by simp [h2]]
      go_enter Try.func72, Try.ntmps72
      go_wp2
      go_ret
      exact ⟨rfl, rfl⟩
    · rw [show decide (s < n) = false by simp [h2]]
      have h3 : decide (s < n) = false := by simp [h2]
      clear h2
      go_enter Try.func72, Try.ntmps72
      go_wp2
      go_ret
      exact ⟨rfl, rfl⟩
  · rw [show decide (0 ≤ s) = false by simp [h1], Bool.false_and]
    have h3 : s < 0 := by omega
    clear h1
    go_enter Try.func72, Try.ntmps72
    go_wp2
    go_ret
    exact ⟨rfl, rfl⟩

theorem hasb_any {A : Option Addr} {c n : Nat} (s : Int) (w : World) : Calls Try.prog 87 #[.slice A n c, .int .i64 s] w fun e w' => e = .returned (.bool (isSecB n s)) ∧ w = w' := by
  unfold isSecB
  by_cases h1 : 0 ≤ s
  · rw [show decide (0 ≤ s) = true by simp [h1], Bool.true_and]
    by_cases h2 : s < n
    · rw [show decide (s < n) = true by simp [h2]]
      go_enter Try.func87, Try.ntmps87
      go_wp2
      go_ret
      exact ⟨rfl, rfl⟩
    · rw [show decide (s < n) = false by simp [h2]]
      have h3 : decide (s < n) = false := by simp [h2]
      clear h2
      go_enter Try.func87, Try.ntmps87
      go_wp2
      go_ret
      exact ⟨rfl, rfl⟩
  · rw [show decide (0 ≤ s) = false by simp [h1], Bool.false_and]
    have h3 : s < 0 := by omega
    clear h1
    go_enter Try.func87, Try.ntmps87
    go_wp2
    go_ret
    exact ⟨rfl, rfl⟩

theorem approach_any (C : Cm) (r : Ro) (w : World) (h : C.Ok w) :
    Calls Try.prog 61 #[C.val, r.val] w fun e w' => e = .returned (.int .i64 (apM C.sg r.entry)) ∧ Fr (fun _ => False) w w' := by
  have K := fun W => hasg_any (A := C.A3) (c := C.c3) (n := C.sg.length) r.entry W
  unfold apM Cm.val Cm.arr Ro.val
  cases hs : isSecB C.sg.length r.entry
  · rw [hs] at K
    rw [if_neg (by decide)]
    clear hs
    go_enter Try.func61, Try.ntmps61
    go_wp2_with fail
    refine (K _).mono ?_
    rintro e w1 ⟨rfl, rfl⟩
    go_wp2_with fail
    go_ret
    exact ⟨rfl, ((Fr.refl _ _).alloc _).alloc _⟩
  · rw [hs] at K
    obtain ⟨k, hk, hlt⟩ := isSecB_true hs
    rw [if_pos rfl, hk, sgAt_nat hlt]
    rw [hk] at K
    obtain ⟨g, o, hA, q0, _⟩ := rd_sg h.sigs hlt
    rw [hA] at K ⊢
    have hg := World.block_lt_of_cell? _ ⟨g, o + k * 2, none⟩ q0
    generalize C.sg[k].sec = v at *
    clear hs hA
    go_enter Try.func61, Try.ntmps61
    go_wp2_with fail
    refine (K _).mono ?_
    rintro e w1 ⟨rfl, rfl⟩
    go_wp2_with fail
    go_ret
    exact ⟨rfl, ((Fr.refl _ _).alloc _).alloc _⟩

end Go.Proofs.Ytnnacdkijeoeoaa

namespace Go.Proofs.Ytnnacdkijeoeoaa
open Go.RowKit

def beyOk (sg : List Sg) (js : List Jo) (k : Int) : Bool := isSecB sg.length k && nextOk js (sgAt sg k).sec (sgAt sg k).fin
def beyS (sg : List Sg) (js : List Jo) (k : Int) : Int := if isSecB sg.length k = true then nextS js (sgAt sg k).sec (sgAt sg k).fin else 0
def beyE (sg : List Sg) (js : List Jo) (k : Int) : Int := if isSecB sg.length k = true then nextE js (sgAt sg k).sec (sgAt sg k).fin else 0

theorem beyond_any (C : Cm) (k : Int) (w : World) (h : C.Ok w) :
    Calls Try.prog 80 #[C.val, .int .i64 k] w fun e w' => e = .returned (.tuple #[.int .i64 (beyS C.sg C.js k), .int .i64 (beyE C.sg C.js k), .bool (beyOk C.sg C.js k)]) ∧ Fr (fun _ => False) w w' := by
  have K := fun W => hasg_any (A := C.A3) (c := C.c3) (n := C.sg.length) k W
  unfold beyOk beyS beyE Cm.val Cm.arr
  cases hs : isSecB C.sg.length k
  · rw [hs] at K
    rw [if_neg (by decide), if_neg (by decide), Bool.false_and]
    clear hs
    go_enter Try.func80, Try.ntmps80
    go_wp2_with fail
    refine (K _).mono ?_
    rintro e w1 ⟨rfl, rfl⟩
    go_wp2_with fail
    go_ret3
    exact ⟨rfl, (Fr.refl _ _).alloc _⟩
  · rw [hs] at K
    obtain ⟨j, rfl, hlt⟩ := isSecB_true hs
    rw [if_pos rfl, if_pos rfl, sgAt_nat hlt, Bool.true_and]
    have b2 := h.b2
    have KN := fun s e w1 (f : Fr (fun _ => False) w w1) => next_any (c := C.c2) s e w1 (h.jos.fr f fun _ _ => id) (by omega)
    obtain ⟨g, o, hA, q0, q1⟩ := rd_sg h.sigs hlt
    rw [hA] at K ⊢
    have hg := World.block_lt_of_cell? _ ⟨g, o + j * 2, none⟩ q0
    have KM := KN C.sg[j].sec C.sg[j].fin
    generalize C.sg[j] = v at *
    generalize hS : nextS C.js v.sec v.fin = S at *
    generalize hE : nextE C.js v.sec v.fin = E at *
    generalize hO : nextOk C.js v.sec v.fin = O at *
    clear hs hA hS hE hO KN b2 h
    go_enter Try.func80, Try.ntmps80
    go_wp2_with fail
    refine (K _).mono ?_
    rintro e w1 ⟨rfl, rfl⟩
    go_wp2_with fail
    refine (KM _ (((Fr.refl _ _).alloc _).alloc _)).mono ?_
    rintro e w1 ⟨rfl, f1⟩
    go_wp2_with fail
    go_ret3
    exact ⟨rfl, fr_nil (((Fr.refl _ _).alloc _).alloc _) f1⟩

theorem joined_any (C : Cm) (s e : Int) (w : World) (h : C.Ok w) :
    Calls Try.prog 54 #[C.val, .int .i64 s, .int .i64 e] w fun x w' => x = .returned (.bool (nextOk C.js s e)) ∧ Fr (fun _ => False) w w' := by
  have b2 := h.b2
  have KN := fun w1 (f : Fr (fun _ => False) w w1) => next_any (c := C.c2) s e w1 (h.jos.fr f fun _ _ => id) (by omega)
  unfold Cm.val Cm.arr
  generalize hS : nextS C.js s e = S at *
  generalize hE : nextE C.js s e = E at *
  generalize hO : nextOk C.js s e = O at *
  clear hS hE hO b2
  go_enter Try.func54, Try.ntmps54
  go_wp2_with fail
  refine (KN _ ((Fr.refl _ _).alloc _)).mono ?_
  rintro e w1 ⟨rfl, f1⟩
  go_wp2_with fail
  go_ret
  exact ⟨rfl, fr_nil ((Fr.refl _ _).alloc _) f1⟩

theorem ends_of_any (C : Cm) (s : Int) (w : World) (h : C.Ok w) :
    Calls Try.prog 78 #[C.val, .int .i64 s] w fun e w' => e = .returned (.int .i64 (endsOf C.l s)) ∧ Fr (fun _ => False) w w' := by
  have K := fun W => hass_any (A := C.A1) (c := C.c1) (n := C.l.length) s W
  unfold endsOf Cm.val Cm.arr
  cases hs : isSecB C.l.length s
  · rw [hs] at K
    rw [if_neg (by decide)]
    clear hs
    go_enter Try.func78, Try.ntmps78
    go_wp2_with fail
    refine (K _).mono ?_
    rintro e w1 ⟨rfl, rfl⟩
    go_wp2_with fail
    go_ret
    exact ⟨rfl, (Fr.refl _ _).alloc _⟩
  · rw [hs] at K
    obtain ⟨k, rfl, hlt⟩ := isSecB_true hs
    rw [if_pos rfl, Int.toNat_natCast, kindOf_at hlt]
    obtain ⟨g, o, hA, q0, _, _⟩ := rd_sec h.secs hlt
    rw [hA] at K ⊢
    have hg := World.block_lt_of_cell? _ ⟨g, o + k * 3, none⟩ q0
    have KE := fun w => ends_any C.l[k].kind w
    generalize C.l[k].kind = v at *
    generalize endsM v = E at *
    clear hs hA
    go_enter Try.func78, Try.ntmps78
    go_wp2_with fail
    refine (K _).mono ?_
    rintro e w1 ⟨rfl, rfl⟩
    go_wp2_with fail
    refine (KE _).mono ?_
    rintro e w1 ⟨rfl, rfl⟩
    go_wp2_with fail
    go_ret
    exact ⟨rfl, (Fr.refl _ _).alloc _⟩

theorem leaves_any (x : St) (w : World) : Calls Try.prog 84 #[.agg #[.int .i64 x.sec, .int .i64 x.inn, .int .i64 x.out]] w fun e w' => e = .returned (.agg #[.int .i64 x.sec, .int .i64 x.out]) ∧ Fr (fun _ => False) w w' := by
  go_enter Try.func84, Try.ntmps84
  go_wp2_with fail
  exact bodyPost_ret (v := .agg #[.int .i64 x.sec, .int .i64 x.out]) (by simp [results, Try.results84, go_sem]) rfl ⟨rfl, ((Fr.refl _ _).alloc _).alloc _⟩
theorem within_any (n a b : Int) (w : World) : Calls Try.prog 64 #[.int .i64 n, .int .i64 a, .int .i64 b] w fun e w' => e = .returned (.bool (decide (a ≤ n) && decide (n ≤ b))) ∧ w = w' := by
  by_cases h1 : a ≤ n
  · by_cases h2 : n ≤ b
    · have e1 : decide (a ≤ n) = true := by simp [h1]
      have e2 : decide (n ≤ b) = true := by simp [h2]
      rw [e1, e2]
      go_enter Try.func64, Try.ntmps64
      go_wp2
      go_ret
      exact ⟨rfl, rfl⟩
    · have e1 : decide (a ≤ n) = true := by simp [h1]
      have e2 : decide (n ≤ b) = false := by simp [h2]
      rw [e1, e2]
      go_enter Try.func64, Try.ntmps64
      go_wp2
      go_ret
      exact ⟨rfl, rfl⟩
  · have e1 : decide (a ≤ n) = false := by simp [h1]
    rw [e1, Bool.false_and]
    go_enter Try.func64, Try.ntmps64
    go_wp2
    go_ret
    exact ⟨rfl, rfl⟩
end Go.Proofs.Ytnnacdkijeoeoaa


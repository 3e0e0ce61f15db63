/- How sections and joints lie in memory; the contracts of Next: what meets an end (the program's, and the document's own). -/
import Derived.Test.YtgommmaipifpaaaWays
namespace Go.Proofs.Ytgommmaipifpaaa
open Go.RowKit

def cellsS (l : List Sec) : List Value := l.flatMap fun s => [.int .i64 s.kind, .int .i64 s.oc, .int .i64 s.line]
def cellsJ (l : List Jo) : List Value := l.flatMap fun j => [.int .i64 j.a, .int .i64 j.ae, .int .i64 j.b, .int .i64 j.be]
theorem cellsS_length (l : List Sec) : (cellsS l).length = l.length * 3 := by
  induction l with
  | nil => rfl
  | cons v r ih =>
    have e : cellsS (v :: r) = [.int .i64 v.kind, .int .i64 v.oc, .int .i64 v.line] ++ cellsS r := rfl
    rw [e, List.length_append, ih, List.length_cons]
    simp
    omega
theorem cellsJ_length (l : List Jo) : (cellsJ l).length = l.length * 4 := by
  induction l with
  | nil => rfl
  | cons v r ih =>
    have e : cellsJ (v :: r) = [.int .i64 v.a, .int .i64 v.ae, .int .i64 v.b, .int .i64 v.be] ++ cellsJ r := rfl
    rw [e, List.length_append, ih, List.length_cons]
    simp
    omega
theorem cellsS_at {l : List Sec} {j : Nat} (h : j < l.length) : (cellsS l)[j * 3]? = some (.int .i64 l[j].kind) ∧ (cellsS l)[j * 3 + 1]? = some (.int .i64 l[j].oc) ∧ (cellsS l)[j * 3 + 2]? = some (.int .i64 l[j].line) := by
  induction l generalizing j with
  | nil => simp at h
  | cons v r ih =>
    have e : cellsS (v :: r) = [.int .i64 v.kind, .int .i64 v.oc, .int .i64 v.line] ++ cellsS r := rfl
    rcases j with _ | j
    · rw [e]; simp
    · have := ih (j := j) (by simpa using h)
      rw [e, show (j + 1) * 3 = 3 + j * 3 by omega, show 3 + j * 3 + 1 = 3 + (j * 3 + 1) by omega, show 3 + j * 3 + 2 = 3 + (j * 3 + 2) by omega]
      rw [List.getElem?_append_right (by simp), List.getElem?_append_right (by simp), List.getElem?_append_right (by simp)]
      simpa using this
theorem cellsJ_at {l : List Jo} {j : Nat} (h : j < l.length) : (cellsJ l)[j * 4]? = some (.int .i64 l[j].a) ∧ (cellsJ l)[j * 4 + 1]? = some (.int .i64 l[j].ae) ∧ (cellsJ l)[j * 4 + 2]? = some (.int .i64 l[j].b) ∧ (cellsJ l)[j * 4 + 3]? = some (.int .i64 l[j].be) := by
  induction l generalizing j with
  | nil => simp at h
  | cons v r ih =>
    have e : cellsJ (v :: r) = [.int .i64 v.a, .int .i64 v.ae, .int .i64 v.b, .int .i64 v.be] ++ cellsJ r := rfl
    rcases j with _ | j
    · rw [e]; simp
    · have := ih (j := j) (by simpa using h)
      rw [e, show (j + 1) * 4 = 4 + j * 4 by omega, show 4 + j * 4 + 1 = 4 + (j * 4 + 1) by omega, show 4 + j * 4 + 2 = 4 + (j * 4 + 2) by omega, show 4 + j * 4 + 3 = 4 + (j * 4 + 3) by omega]
      rw [List.getElem?_append_right (by simp), List.getElem?_append_right (by simp), List.getElem?_append_right (by simp), List.getElem?_append_right (by simp)]
      simpa using this
theorem rd_sec {w : World} {A : Option Addr} {l : List Sec} (h : Rd w A (cellsS l)) {j : Nat} (hj : j < l.length) : ∃ g o, A = some ⟨g, o, none⟩ ∧ w.cell? ⟨g, o + j * 3, none⟩ = some (.int .i64 l[j].kind) ∧ w.cell? ⟨g, o + j * 3 + 1, none⟩ = some (.int .i64 l[j].oc) ∧ w.cell? ⟨g, o + j * 3 + 2, none⟩ = some (.int .i64 l[j].line) := by
  obtain ⟨h0, h1, h2⟩ := cellsS_at hj
  obtain ⟨g, o, rfl, _, hc⟩ := h (by have := (List.getElem?_eq_some_iff.1 h0).1; omega)
  exact ⟨g, o, rfl, hc _ _ h0, hc _ _ h1, hc _ _ h2⟩
theorem rd_jo {w : World} {A : Option Addr} {l : List Jo} (h : Rd w A (cellsJ l)) {j : Nat} (hj : j < l.length) : ∃ g o, A = some ⟨g, o, none⟩ ∧ w.cell? ⟨g, o + j * 4, none⟩ = some (.int .i64 l[j].a) ∧ w.cell? ⟨g, o + j * 4 + 1, none⟩ = some (.int .i64 l[j].ae) ∧ w.cell? ⟨g, o + j * 4 + 2, none⟩ = some (.int .i64 l[j].b) ∧ w.cell? ⟨g, o + j * 4 + 3, none⟩ = some (.int .i64 l[j].be) := by
  obtain ⟨h0, h1, h2, h3⟩ := cellsJ_at hj
  obtain ⟨g, o, rfl, _, hc⟩ := h (by have := (List.getElem?_eq_some_iff.1 h0).1; omega)
  exact ⟨g, o, rfl, hc _ _ h0, hc _ _ h1, hc _ _ h2, hc _ _ h3⟩

theorem two_tests (a s b e : Int) : ((a == s) = true ∧ (b == e) = true ∧ (decide (a = s) && decide (b = e)) = true) ∨ ((a == s) = false ∧ (decide (a = s) && decide (b = e)) = false) ∨ ((a == s) = true ∧ (b == e) = false ∧ (decide (a = s) && decide (b = e)) = false) := by
  by_cases h1 : a = s <;> by_cases h2 : b = e <;> simp [h1, h2]

set_option maxHeartbeats 2000000 in
theorem next_any {A : Option Addr} {c : Nat} {l : List Jo} (s e : Int) (w : World) (hr : Rd w A (cellsJ l)) (hl : l.length ≤ 9223372036854775807) :
    Calls Try.prog 13 #[.slice A l.length c, .int .i64 s, .int .i64 e] w fun x w' => x = .returned (.tuple #[.int .i64 (nextS l s e), .int .i64 (nextE l s e), .bool (nextOk l s e)]) ∧ Fr (fun _ => False) w w' := by
  generalize hO : nextS l s e = S
  generalize hE : nextE l s e = E
  generalize hK : nextOk l s e = K
  have HO := Lib.hid hO
  have HE := Lib.hid hE
  have HK := Lib.hid hK
  clear hO hE hK
  go_enter Try.func13, Try.ntmps13
  go_wp2_with fail
  go_loopw [13] (fun t wr => ∃ j : Nat, j ≤ l.length ∧ t = .int .i64 (j : Nat) ∧ nextS (l.drop j) s e = S ∧ nextE (l.drop j) s e = E ∧ nextOk (l.drop j) s e = K ∧ Fr (fun _ => False) w wr) (fun t _ => l.length - (intOf t).toNat)
  case atStart => exact ⟨0, Nat.zero_le _, rfl, HO.out, HE.out, HK.out, Fr.refl _ _⟩
  case round =>
    clear HO HE HK
    obtain ⟨j, hj, rfl, hO, hE, hK, fr⟩ := hrel
    by_cases hlt : j < l.length
    · obtain ⟨g, o, rfl, c0, c1, c2, c3⟩ := rd_jo (hr.fr fr fun _ _ => id) hlt
      rw [List.drop_eq_getElem_cons hlt, nextS] at hO
      rw [List.drop_eq_getElem_cons hlt, nextE] at hE
      rw [List.drop_eq_getElem_cons hlt, nextOk] at hK
      unfold jA jB at hO hE hK
      generalize l[j] = v at *
      have hA := two_tests v.a s v.ae e
      have hB := two_tests v.b s v.be e
      generalize (decide (v.a = s) && decide (v.ae = e)) = x at *
      generalize (decide (v.b = s) && decide (v.be = e)) = y at *
      obtain ⟨va, vae, vb, vbe⟩ := v
      simp only at *
      rcases hA with ⟨a1, a2, rfl⟩ | ⟨a1, rfl⟩ | ⟨a1, a2, rfl⟩
      · simp only [if_true, Bool.true_or] at hO hE hK
        subst hO hE hK
        clear hB hr
        go_wp2_with fail
        go_quiet (fail)
        go_wp2_with fail
        go_ret3
        exact ⟨rfl, (fr.alloc _).drewN nq⟩
      all_goals
        simp only [Bool.false_or, Bool.false_eq_true, if_false] at hO hE hK
        rcases hB with ⟨b1, b2, rfl⟩ | ⟨b1, rfl⟩ | ⟨b1, b2, rfl⟩
        · simp only [if_true, Bool.true_or] at hO hE hK
          subst hO hE hK
          clear hr
          go_wp2_with fail
          go_quiet (fail)
          go_wp2_with fail
          go_ret3
          exact ⟨rfl, (fr.alloc _).drewN nq⟩
        all_goals
          simp only [Bool.false_or, Bool.false_eq_true, if_false] at hO hE hK
          have HO := Lib.hid hO
          have HE := Lib.hid hE
          have HK := Lib.hid hK
          clear hO hE hK hr
          go_wp2_with fail
          go_roundw
          case rel => exact ⟨j + 1, by omega, by go_num, HO.out, HE.out, HK.out, fr.alloc _⟩
          case measure => simp [intOf]; omega
    · have hjl : j = l.length := by omega
      subst hjl
      rw [List.drop_length] at hO hE hK
      have hO' : 0 = S := hO
      have hE' : 0 = E := hE
      have hK' : false = K := hK
      subst hO' hE' hK'
      clear hO hE hK
      go_wp2_with fail
      go_ret3
      exact ⟨rfl, fr⟩

set_option maxHeartbeats 2000000 in
theorem rnext_any {A : Option Addr} {c : Nat} {l : List Jo} (s e : Int) (w : World) (hr : Rd w A (cellsJ l)) (hl : l.length ≤ 9223372036854775807) :
    Calls Try.prog 14 #[.slice A l.length c, .int .i64 s, .int .i64 e] w fun x w' => x = .returned (.tuple #[.int .i64 (nextS l s e), .int .i64 (nextE l s e), .bool (nextOk l s e)]) ∧ Fr (fun _ => False) w w' := by
  generalize hO : nextS l s e = S
  generalize hE : nextE l s e = E
  generalize hK : nextOk l s e = K
  have HO := Lib.hid hO
  have HE := Lib.hid hE
  have HK := Lib.hid hK
  clear hO hE hK
  go_enter Try.func14, Try.ntmps14
  go_wp2_with fail
  go_loopw [13] (fun t wr => ∃ j : Nat, j ≤ l.length ∧ t = .int .i64 (j : Nat) ∧ nextS (l.drop j) s e = S ∧ nextE (l.drop j) s e = E ∧ nextOk (l.drop j) s e = K ∧ Fr (fun _ => False) w wr) (fun t _ => l.length - (intOf t).toNat)
  case atStart => exact ⟨0, Nat.zero_le _, rfl, HO.out, HE.out, HK.out, Fr.refl _ _⟩
  case round =>
    clear HO HE HK
    obtain ⟨j, hj, rfl, hO, hE, hK, fr⟩ := hrel
    by_cases hlt : j < l.length
    · obtain ⟨g, o, rfl, c0, c1, c2, c3⟩ := rd_jo (hr.fr fr fun _ _ => id) hlt
      rw [List.drop_eq_getElem_cons hlt, nextS] at hO
      rw [List.drop_eq_getElem_cons hlt, nextE] at hE
      rw [List.drop_eq_getElem_cons hlt, nextOk] at hK
      unfold jA jB at hO hE hK
      generalize l[j] = v at *
      have hA := two_tests v.a s v.ae e
      have hB := two_tests v.b s v.be e
      generalize (decide (v.a = s) && decide (v.ae = e)) = x at *
      generalize (decide (v.b = s) && decide (v.be = e)) = y at *
      obtain ⟨va, vae, vb, vbe⟩ := v
      simp only at *
      rcases hA with ⟨a1, a2, rfl⟩ | ⟨a1, rfl⟩ | ⟨a1, a2, rfl⟩
      · simp only [if_true, Bool.true_or] at hO hE hK
        subst hO hE hK
        clear hB hr
        go_wp2_with fail
        go_quiet (fail)
        go_wp2_with fail
        go_ret3
        exact ⟨rfl, (fr.alloc _).drewN nq⟩
      all_goals
        simp only [Bool.false_or, Bool.false_eq_true, if_false] at hO hE hK
        rcases hB with ⟨b1, b2, rfl⟩ | ⟨b1, rfl⟩ | ⟨b1, b2, rfl⟩
        · simp only [if_true, Bool.true_or] at hO hE hK
          subst hO hE hK
          clear hr
          go_wp2_with fail
          go_quiet (fail)
          go_wp2_with fail
          go_ret3
          exact ⟨rfl, (fr.alloc _).drewN nq⟩
        all_goals
          simp only [Bool.false_or, Bool.false_eq_true, if_false] at hO hE hK
          have HO := Lib.hid hO
          have HE := Lib.hid hE
          have HK := Lib.hid hK
          clear hO hE hK hr
          go_wp2_with fail
          go_roundw
          case rel => exact ⟨j + 1, by omega, by go_num, HO.out, HE.out, HK.out, fr.alloc _⟩
          case measure => simp [intOf]; omega
    · have hjl : j = l.length := by omega
      subst hjl
      rw [List.drop_length] at hO hE hK
      have hO' : 0 = S := hO
      have hE' : 0 = E := hE
      have hK' : false = K := hK
      subst hO' hE' hK'
      clear hO hE hK
      go_wp2_with fail
      go_ret3
      exact ⟨rfl, fr⟩
end Go.Proofs.Ytgommmaipifpaaa

/- The contracts of the document's own Way and Pos, and of counting in how many places an end stands. -/
import Derived.Test.YtgommmaipifpaaaRefs
namespace Go.Proofs.Ytgommmaipifpaaa
open Go.RowKit

theorem open_tests (v : Wy) (p : Int) : (opn v p = true ∧ (v.pos != 0) = false) ∨ (opn v p = true ∧ (v.pos != 0) = true ∧ (v.pos != p) = false) ∨ (opn v p = false ∧ (v.pos != 0) = true ∧ (v.pos != p) = true) := by
  unfold opn
  by_cases h1 : v.pos = 0
  · by_cases h2 : v.pos = p <;> simp [h1]
  · by_cases h2 : v.pos = p
    · simp [h2]
      omega
    · simp [h1, h2]
theorem far_tests (v : Wy) (i : Int) : (farOk v i = true ∧ farOut v i = v.b ∧ (v.a == i) = true) ∨ (farOk v i = true ∧ farOut v i = v.a ∧ (v.a == i) = false ∧ (v.b == i) = true) ∨ (farOk v i = false ∧ (v.a == i) = false ∧ (v.b == i) = false) := by
  unfold farOk farOut
  by_cases h1 : i = v.a
  · have e : (v.a == i) = true := by simp [h1]
    exact .inl ⟨by simp [h1], by rw [if_pos h1], e⟩
  · have e : (v.a == i) = false := by simp; omega
    by_cases h2 : i = v.b
    · have e2 : (v.b == i) = true := by simp [h2]
      exact .inr (.inl ⟨by simp [h2], by rw [if_neg h1, if_pos h2], e, e2⟩)
    · have e2 : (v.b == i) = false := by simp; omega
      exact .inr (.inr ⟨by simp [h1, h2], e, e2⟩)

set_option maxHeartbeats 2000000 in
theorem rway_any (k i p : Int) (w : World) : Calls Try.prog 16 #[.int .i64 k, .int .i64 i, .int .i64 p] w fun e w' => e = .returned (.tuple #[.int .i64 (wayOut k i p), .bool (wayOk k i p)]) ∧ Fr (fun _ => False) w w' := by
  unfold wayOut wayOk
  have KW := rways_any k
  have hs := ways_short k
  generalize waysM k = l at *
  generalize hO : wayOutL l i p = O
  generalize hK : wayOkL l i p = K
  have HO := Lib.hid hO
  have HK := Lib.hid hK
  clear hO hK
  go_enter Try.func16, Try.ntmps16
  go_wp2_with fail
  refine (KW _).mono ?_
  clear KW
  rintro e w1 ⟨A, c, rfl, hr, hc, f1⟩
  go_wp2_with fail
  go_loopw [13] (fun t wr => ∃ j : Nat, j ≤ l.length ∧ t = .int .i64 (j : Nat) ∧ wayOutL (l.drop j) i p = O ∧ wayOkL (l.drop j) i p = K ∧ Fr (fun _ => False) w1 wr) (fun t _ => l.length - (intOf t).toNat)
  case atStart => exact ⟨0, Nat.zero_le _, rfl, HO.out, HK.out, Fr.refl _ _⟩
  case round =>
    clear HO HK
    obtain ⟨j, hj, rfl, hO, hK, fr⟩ := hrel
    by_cases hlt : j < l.length
    · obtain ⟨g, o, rfl, c0, c1, c2⟩ := rd_ways (hr.fr fr fun _ _ => id) hlt
      rw [List.drop_eq_getElem_cons hlt, wayOutL] at hO
      rw [List.drop_eq_getElem_cons hlt, wayOkL] at hK
      generalize l[j] = v at *
      have ho := open_tests v p
      have hf := far_tests v i
      generalize opn v p = x at *
      generalize farOk v i = y at *
      generalize farOut v i = z at *
      obtain ⟨va, vb, vp⟩ := v
      simp only at *
      clear hr
      rcases ho with ⟨rfl, o1⟩ | ⟨rfl, o1, o2⟩ | ⟨rfl, o1, o2⟩
      · rcases hf with ⟨rfl, rfl, e1⟩ | ⟨rfl, rfl, e1, e2⟩ | ⟨rfl, e1, e2⟩
        · simp at hO hK
          subst hO hK
          go_wp2_with fail
          go_ret2
          exact ⟨rfl, fr_nil f1 (fr.alloc _)⟩
        · simp at hO hK
          subst hO hK
          go_wp2_with fail
          go_ret2
          exact ⟨rfl, fr_nil f1 (fr.alloc _)⟩
        · simp at hO hK
          have HO := Lib.hid hO
          have HK := Lib.hid hK
          clear hO hK
          go_wp2_with fail
          go_roundw
          case rel => exact ⟨j + 1, by omega, by go_num, HO.out, HK.out, fr.alloc _⟩
          case measure => simp [intOf]; omega
      · rcases hf with ⟨rfl, rfl, e1⟩ | ⟨rfl, rfl, e1, e2⟩ | ⟨rfl, e1, e2⟩
        · simp at hO hK
          subst hO hK
          go_wp2_with fail
          go_ret2
          exact ⟨rfl, fr_nil f1 (fr.alloc _)⟩
        · simp at hO hK
          subst hO hK
          go_wp2_with fail
          go_ret2
          exact ⟨rfl, fr_nil f1 (fr.alloc _)⟩
        · simp at hO hK
          have HO := Lib.hid hO
          have HK := Lib.hid hK
          clear hO hK
          go_wp2_with fail
          go_roundw
          case rel => exact ⟨j + 1, by omega, by go_num, HO.out, HK.out, fr.alloc _⟩
          case measure => simp [intOf]; omega
      · clear hf
        simp at hO hK
        have HO := Lib.hid hO
        have HK := Lib.hid hK
        clear hO hK
        go_wp2_with fail
        go_roundw
        case rel => exact ⟨j + 1, by omega, by go_num, HO.out, HK.out, fr.alloc _⟩
        case measure => simp [intOf]; omega
    · have hjl : j = l.length := by omega
      subst hjl
      rw [List.drop_length] at hO hK
      have hO' : 0 = O := hO
      have hK' : false = K := hK
      subst hO' hK'
      clear hO hK
      go_wp2_with fail
      go_ret2
      exact ⟨rfl, fr_nil f1 fr⟩

theorem pos_tests (v : Wy) (i o : Int) (h : v.a ≠ v.b) : (farOk v i && decide (farOut v i = o)) = ((decide (v.a = i) && decide (v.b = o)) || (decide (v.b = i) && decide (v.a = o))) := by
  unfold farOk farOut
  rw [Bool.eq_iff_iff]
  by_cases h1 : i = v.a
  · have : v.b ≠ i := fun e => h (by omega)
    simp [h1]
    omega
  · by_cases h2 : i = v.b
    · have : v.a ≠ i := fun e => h (by omega)
      simp [h2]
      omega
    · simp [h1, h2]
      omega

set_option maxHeartbeats 2000000 in
theorem rpos_any (k i p : Int) (w : World) : Calls Try.prog 18 #[.int .i64 k, .int .i64 i, .int .i64 p] w fun e w' => e = .returned (.tuple #[.int .i64 (posOut k i p), .bool (posOk k i p)]) ∧ Fr (fun _ => False) w w' := by
  unfold posOut posOk
  have KW := rways_any k
  have hs := ways_short k
  have hlo := fun v h => (way_lo (k := k) (v := v) h).2.2.2.2
  generalize waysM k = l at *
  generalize hO : posOutL l i p = O
  generalize hK : posOkL l i p = K
  have HO := Lib.hid hO
  have HK := Lib.hid hK
  have HLO := Lib.hid hlo
  clear hO hK hlo
  go_enter Try.func18, Try.ntmps18
  go_wp2_with fail
  refine (KW _).mono ?_
  clear KW
  rintro e w1 ⟨A, c, rfl, hr, hc, f1⟩
  go_wp2_with fail
  go_loopw [13] (fun t wr => ∃ j : Nat, j ≤ l.length ∧ t = .int .i64 (j : Nat) ∧ posOutL (l.drop j) i p = O ∧ posOkL (l.drop j) i p = K ∧ Fr (fun _ => False) w1 wr) (fun t _ => l.length - (intOf t).toNat)
  case atStart => exact ⟨0, Nat.zero_le _, rfl, HO.out, HK.out, Fr.refl _ _⟩
  case round =>
    clear HO HK
    obtain ⟨j, hj, rfl, hO, hK, fr⟩ := hrel
    by_cases hlt : j < l.length
    · obtain ⟨g, o, rfl, c0, c1, c2⟩ := rd_ways (hr.fr fr fun _ _ => id) hlt
      have hne := HLO.out l[j] (List.getElem_mem hlt)
      rw [List.drop_eq_getElem_cons hlt, posOutL, pos_tests _ _ _ hne] at hO
      rw [List.drop_eq_getElem_cons hlt, posOkL, pos_tests _ _ _ hne] at hK
      generalize l[j] = v at *
      have hA := two_tests v.a i v.b p
      have hB := two_tests v.b i v.a p
      generalize (decide (v.a = i) && decide (v.b = p)) = x at *
      generalize (decide (v.b = i) && decide (v.a = p)) = y at *
      obtain ⟨va, vb, vp⟩ := v
      simp only at *
      clear hr hne
      rcases hA with ⟨a1, a2, rfl⟩ | ⟨a1, rfl⟩ | ⟨a1, a2, rfl⟩
      · simp at hO hK
        subst hO hK
        clear hB
        go_wp2_with fail
        go_ret2
        exact ⟨rfl, fr_nil f1 (fr.alloc _)⟩
      all_goals
        rcases hB with ⟨b1, b2, rfl⟩ | ⟨b1, rfl⟩ | ⟨b1, b2, rfl⟩
        · simp at hO hK
          subst hO hK
          go_wp2_with fail
          go_ret2
          exact ⟨rfl, fr_nil f1 (fr.alloc _)⟩
        all_goals
          simp at hO hK
          have HO := Lib.hid hO
          have HK := Lib.hid hK
          clear hO hK
          go_wp2_with fail
          go_roundw
          case rel => exact ⟨j + 1, by omega, by go_num, HO.out, HK.out, fr.alloc _⟩
          case measure => simp [intOf]; omega
    · have hjl : j = l.length := by omega
      subst hjl
      rw [List.drop_length] at hO hK
      have hO' : 0 = O := hO
      have hK' : false = K := hK
      subst hO' hK'
      clear hO hK
      go_wp2_with fail
      go_ret2
      exact ⟨rfl, fr_nil f1 fr⟩

set_option maxHeartbeats 2000000 in
theorem count_any {A : Option Addr} {c : Nat} {l : List Jo} (s e : Int) (w : World) (hr : Rd w A (cellsJ l)) (hl : l.length ≤ 1000000) :
    Calls Try.prog 29 #[.slice A l.length c, .int .i64 s, .int .i64 e] w fun x w' => x = .returned (.int .i64 (countM l s e : Nat)) ∧ Fr (fun _ => False) w w' := by
  generalize hO : countM l s e = O
  have HO := Lib.hid hO
  clear hO
  go_enter Try.func29, Try.ntmps29
  go_wp2_with fail
  go_loopw [7, 12] (fun n t wr => ∃ (j m : Nat), j ≤ l.length ∧ t = .int .i64 (j : Nat) ∧ n = .int .i64 (m : Nat) ∧ m ≤ 2 * j ∧ m + countM (l.drop j) s e = O ∧ Fr (fun _ => False) w wr) (fun _ t _ => l.length - (intOf t).toNat)
  case atStart => exact ⟨0, 0, Nat.zero_le _, rfl, rfl, by omega, by rw [List.drop_zero, Nat.zero_add]; exact HO.out, Fr.refl _ _⟩
  case round =>
    clear HO
    obtain ⟨j, m, hj, rfl, rfl, hm, hO, fr⟩ := hrel
    by_cases hlt : j < l.length
    · obtain ⟨g, o, rfl, c0, c1, c2, c3⟩ := rd_jo (hr.fr fr fun _ _ => id) hlt
      rw [List.drop_eq_getElem_cons hlt, countM] at hO
      unfold jA jB at hO
      generalize l[j] = v at *
      have hA := two_tests v.a s v.ae e
      have hB := two_tests v.b s v.be e
      generalize (decide (v.a = s) && decide (v.ae = e)) = x at *
      generalize (decide (v.b = s) && decide (v.be = e)) = y at *
      obtain ⟨va, vae, vb, vbe⟩ := v
      simp only at *
      clear hr
      rcases hA with ⟨a1, a2, rfl⟩ | ⟨a1, rfl⟩ | ⟨a1, a2, rfl⟩
      all_goals
        rcases hB with ⟨b1, b2, rfl⟩ | ⟨b1, rfl⟩ | ⟨b1, b2, rfl⟩
        all_goals
          simp only [if_true, Bool.false_eq_true, if_false] at hO
          have HO := Lib.hid hO
          clear hO
          go_wp2_with fail
          go_roundw
          case rel => first | exact ⟨j + 1, m, by omega, by go_num, rfl, by omega, by have := HO.out; omega, fr.alloc _⟩ | exact ⟨j + 1, m + 1, by omega, by go_num, by go_num, by omega, by have := HO.out; omega, fr.alloc _⟩ | exact ⟨j + 1, m + 2, by omega, by go_num, by go_num, by omega, by have := HO.out; omega, fr.alloc _⟩
          case measure => simp [intOf]; omega
    · have hjl : j = l.length := by omega
      subst hjl
      rw [List.drop_length] at hO
      have hO' : m = O := hO
      subst hO'
      clear hO
      go_wp2_with fail
      go_ret
      exact ⟨rfl, fr⟩
end Go.Proofs.Ytgommmaipifpaaa

/- The contracts of the document's own answers of ways: Ends, Way, Pos; and of counting in how many places an end stands. -/
import Derived.Test.YtgommmaipifpaaaPlan
namespace Go.Proofs.Ytgommmaipifpaaa
open Go.RowKit

theorem rways_any (k : Int) (w : World) : Calls Try.prog 33 #[.int .i64 k] w (SomeWays (· ≤ ·) w (waysM k)) := by
  rcases kind_cases k with rfl | rfl | rfl | hk
  · go_enter Try.func33, Try.ntmps33
    go_wp2
    go_ret
    exact ⟨_, _, rfl, lit_rd _ _ _, Nat.le_refl _, (Fr.refl _ _).alloc _⟩
  · go_enter Try.func33, Try.ntmps33
    go_wp2
    go_ret
    exact ⟨_, _, rfl, lit_rd _ _ _, Nat.le_refl _, (Fr.refl _ _).alloc _⟩
  · go_enter Try.func33, Try.ntmps33
    go_wp2
    go_ret
    exact ⟨_, _, rfl, lit_rd _ _ _, Nat.le_refl _, (Fr.refl _ _).alloc _⟩
  · rw [ways_none hk]
    have e0 : (k == 0) = false := by simp [hk]
    have e1 : (k == 1) = false := by simp [hk]
    have e2 : (k == 2) = false := by simp [hk]
    clear hk
    go_enter Try.func33, Try.ntmps33
    go_wp2
    go_ret
    exact ⟨_, _, rfl, fun h => by simp [cellsW] at h, Nat.le_refl _, Fr.refl _ _⟩

/-- the greatest end of a list of ways, and one -/
def topL : List Wy → Int → Int
  | [], n => n
  | v :: r, n => topL r (max (max n (v.a + 1)) (v.b + 1))
theorem topL_ends (k : Int) : topL (waysM k) 0 = endsM k := by
  rcases kind_cases k with rfl | rfl | rfl | hk
  · decide
  · decide
  · decide
  · rw [ways_none hk, ends_none.2 hk]
    rfl
theorem way_lo {k : Int} {v : Wy} (h : v ∈ waysM k) : 0 ≤ v.a ∧ v.a ≤ 3 ∧ 0 ≤ v.b ∧ v.b ≤ 3 ∧ v.a ≠ v.b := by
  rcases kind_cases k with rfl | rfl | rfl | hk
  · have : v = ⟨0, 1, 0⟩ := by simpa [waysM] using h
    subst this; simp
  · have : v = ⟨0, 1, 1⟩ ∨ v = ⟨0, 2, 2⟩ := by simpa [waysM] using h
    rcases this with rfl | rfl <;> simp
  · have : v = ⟨0, 1, 0⟩ ∨ v = ⟨2, 3, 0⟩ := by simpa [waysM] using h
    rcases this with rfl | rfl <;> simp
  · rw [ways_none hk] at h
    simp at h

set_option maxHeartbeats 1000000 in
theorem rends_any (k : Int) (w : World) : Calls Try.prog 20 #[.int .i64 k] w fun e w' => e = .returned (.int .i64 (endsM k)) ∧ Fr (fun _ => False) w w' := by
  rw [← topL_ends]
  have KW := rways_any k
  have hs := ways_short k
  have hlo := fun v h => way_lo (k := k) (v := v) h
  generalize waysM k = l at *
  generalize hO : topL l 0 = O
  have HO := Lib.hid hO
  have HLO := Lib.hid hlo
  clear hO hlo
  go_enter Try.func20, Try.ntmps20
  go_wp2_with fail
  refine (KW _).mono ?_
  clear KW
  rintro e w1 ⟨A, c, rfl, hr, hc, f1⟩
  go_wp2_with fail
  go_loopw [3, 9] (fun n t wr => ∃ (j : Nat) (m : Int), j ≤ l.length ∧ t = .int .i64 (j : Nat) ∧ n = .int .i64 m ∧ 0 ≤ m ∧ m ≤ 4 ∧ topL (l.drop j) m = O ∧ Fr (fun _ => False) w1 wr) (fun _ t _ => l.length - (intOf t).toNat)
  case atStart => exact ⟨0, 0, Nat.zero_le _, rfl, rfl, by omega, by omega, HO.out, Fr.refl _ _⟩
  case round =>
    obtain ⟨j, m, hj, rfl, rfl, hm0, hm4, hO, fr⟩ := hrel
    by_cases hlt : j < l.length
    · obtain ⟨g, o, rfl, c0, c1, c2⟩ := rd_ways (hr.fr fr fun _ _ => id) hlt
      obtain ⟨b0, b1, b2, b3, _⟩ := HLO.out l[j] (List.getElem_mem hlt)
      rw [List.drop_eq_getElem_cons hlt, topL] at hO
      generalize l[j] = v at *
      obtain ⟨va, vb, vp⟩ := v
      simp only at *
      have hx1 : (if va + 1 > m then va + 1 else m) = max m (va + 1) := by split <;> omega
      have hx2 : (if vb + 1 > max m (va + 1) then vb + 1 else max m (va + 1)) = max (max m (va + 1)) (vb + 1) := by split <;> omega
      have hx0 : 0 ≤ max (max m (va + 1)) (vb + 1) := by omega
      have hx4 : max (max m (va + 1)) (vb + 1) ≤ 4 := by omega
      generalize max (max m (va + 1)) (vb + 1) = M at *
      generalize max m (va + 1) = m1 at *
      have HO1 := Lib.hid hO
      have hmax : ∀ W, (Builtin.max_ #[3, 3, 3] 3 #[.int .i64 m, .int .i64 (va + 1), .int .i64 (vb + 1)]).run Try.prog W = .ok (.int .i64 M) W := fun W => by
        have e : (Builtin.max_ #[3, 3, 3] 3 #[.int .i64 m, .int .i64 (va + 1), .int .i64 (vb + 1)]).run Try.prog W = .ok (.int .i64 (if vb + 1 > (if va + 1 > m then va + 1 else m) then vb + 1 else (if va + 1 > m then va + 1 else m))) W := by simp [Builtin.max_, Builtin.max2]
        rw [e, hx1, hx2]
      clear hO HO hx1 hx2
      go_wp2_with fail
      clear hmax
      go_wp2_with fail
      go_roundw
      case rel => exact ⟨j + 1, M, by omega, by go_num, rfl, hx0, hx4, HO1.out, fr.alloc _⟩
      case measure => simp [intOf]; omega
    · have hjl : j = l.length := by omega
      subst hjl
      rw [List.drop_length] at hO
      have hO' : m = O := hO
      subst hO'
      clear hO
      go_wp2_with fail
      go_ret
      exact ⟨rfl, fr_nil f1 fr⟩
end Go.Proofs.Ytgommmaipifpaaa

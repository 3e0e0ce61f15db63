/- The contracts of the program's within, moversFit, linesFit, routesFit, lengthsFit, suits, Fits. -/
import Derived.Test.YtnnacdkijeoeoaaLp
import Derived.Test.YtnnacdkijeoeoaaKj
import Derived.Deep.LoopGhost
namespace Go.Proofs.Ytnnacdkijeoeoaa.Lk
open Go.RowKit

theorem inB_part {a b n : Int} : inB a b n = false → decide (n < a) = true ∨ (decide (n < a) = false ∧ decide (b < n) = true) := by
  intro h
  rw [inB_no] at h
  by_cases h1 : n < a
  · exact .inl (decide_eq_true h1)
  · exact .inr ⟨decide_eq_false h1, decide_eq_true (by omega)⟩
theorem inB_part1 {a b n : Int} : inB a b n = true → decide (n < a) = false ∧ decide (b < n) = false := by
  intro h
  rw [inB_iff] at h
  exact ⟨decide_eq_false (by omega), decide_eq_false (by omega)⟩
set_option maxHeartbeats 4000000 in
theorem within_any {A : Option Addr} {c : Nat} (a b : Int) (l : List Int) (w : World) (h : Rd w A (l.map (Value.int .i64))) (hl : l.length ≤ 9223372036854775807) :
    Calls Try.prog 39 #[.int .i64 a, .int .i64 b, .slice A l.length c] w fun e w' => e = .returned (.bool (l.all (inB a b))) ∧ Fr (fun _ => False) w w' := by
  generalize hT : l.all (inB a b) = T
  have HT := Lib.hid hT
  clear hT
  go_enter Try.func39, Try.ntmps39
  go_wp2_with fail
  go_loopg [8, 11] l.length (fun gi _ v11 wr => ∃ k : Nat, k ≤ l.length ∧ gi = l.length - k ∧ v11 = .int .i64 (k : Nat) ∧ (l.drop k).all (inB a b) = T ∧ Fr (fun _ => False) w wr)
  case atStart => exact ⟨0, Nat.zero_le _, rfl, rfl, HT.out, Fr.refl _ _⟩
  case round =>
    clear HT
    obtain ⟨k, hk, rfl, rfl, hT, f⟩ := hrel
    by_cases hlt : k < l.length
    · obtain ⟨g, o, hA, q0⟩ := rd_int (h.fr f fun _ _ => id) hlt
      rw [List.drop_eq_getElem_cons hlt, List.all_cons] at hT
      generalize hR : (l.drop (k + 1)).all (inB a b) = R at hT
      have HR := Lib.hid hR
      clear hR
      generalize l[k] = x at *
      have i1 : (0 : Int) ≤ (k : Int) := by omega
      have i2 : (k : Int) < (l.length : Int) := by omega
      rw [hA]
      have HA := Lib.hid hA
      clear hA
      cases hx : inB a b x
      · rw [hx, Bool.false_and] at hT
        subst hT
        rcases inB_part hx with d | ⟨d, d2⟩
        · clear hx
          go_wp2_with fail
          go_ret
          exact ⟨rfl, f⟩
        · clear hx
          go_wp2_with fail
          go_ret
          exact ⟨rfl, f⟩
      · rw [hx, Bool.true_and] at hT
        obtain ⟨d, d2⟩ := inB_part1 hx
        have HT := Lib.hid hT
        clear hx hT
        go_wp2_with fail
        rw [← HA.out]
        go_roundg (l.length - (k + 1))
        case measure => omega
        case rel => exact ⟨k + 1, by omega, rfl, by go_num, HR.out.trans HT.out, f⟩
    · rw [List.drop_eq_nil_of_le (by omega)] at hT
      obtain rfl : T = true := by rw [← hT]; rfl
      go_wp2_with fail
      go_ret
      exact ⟨rfl, f⟩

theorem rd_lit {w : World} {n : Nat} (h : w.heap.size = n) (l : List Int) : Rd (w.alloc (.cells (l.map (Value.int .i64)).toArray 3)) (some ⟨n, 0, none⟩) (l.map (Value.int .i64)) := lit_rd_at h _ _
/-- within, of numbers written out -/
theorem within_lit (a b : Int) (l : List Int) (n : Nat) (w : World) (hn : n = l.length) (hl : l.length ≤ 100) {z : Nat} (hz : w.heap.size = z) :
    Calls Try.prog 39 #[.int .i64 a, .int .i64 b, .slice (some ⟨z, 0, none⟩) n n] (w.alloc (.cells (l.map (Value.int .i64)).toArray 3)) fun e w' => e = .returned (.bool (l.all (inB a b))) ∧ Fr (fun _ => False) w w' := by
  subst hn
  refine (within_any a b l _ (rd_lit hz l) (by omega)).mono ?_
  rintro e w' ⟨rfl, f⟩
  exact ⟨rfl, ((Fr.refl (fun _ => False) w).alloc _).trans f fun _ _ h => h⟩

set_option maxRecDepth 100000 in
set_option maxHeartbeats 4000000 in
theorem movers_any {A : Option Addr} {c : Nat} (l : List Mo) (w : World) (h : Rd w A (l.flatMap cMo)) (hl : l.length * 16 ≤ 140737488351232) :
    Calls Try.prog 41 #[.slice A l.length c] w fun e w' => e = .returned (.bool (l.all moB)) ∧ Fr (fun _ => False) w w' := by
  generalize hT : l.all moB = T
  have HT := Lib.hid hT
  clear hT
  go_enter Try.func41, Try.ntmps41
  go_wp2_with fail
  go_loopg [4, 7] l.length (fun gi _ v7 wr => ∃ k : Nat, k ≤ l.length ∧ gi = l.length - k ∧ v7 = .int .i64 (k : Nat) ∧ (l.drop k).all moB = T ∧ Fr (fun _ => False) w wr)
  case atStart => exact ⟨0, Nat.zero_le _, rfl, rfl, HT.out, Fr.refl _ _⟩
  case round =>
    clear HT
    obtain ⟨k, hk, rfl, rfl, hT, f⟩ := hrel
    by_cases hlt : k < l.length
    · obtain ⟨g, o, hA, q0, q1⟩ := rd_mo (h.fr f fun _ _ => id) hlt
      rw [List.drop_eq_getElem_cons hlt, List.all_cons] at hT
      generalize hR : (l.drop (k + 1)).all moB = R at hT
      have HR := Lib.hid hR
      clear hR
      generalize l[k] = x at *
      obtain ⟨xc, xo⟩ := x
      dsimp only at q0 q1
      have i1 : (0 : Int) ≤ (k : Int) := by omega
      have i2 : (k : Int) < (l.length : Int) := by omega
      rw [hA]
      have HA := Lib.hid hA
      clear hA
      have hT : ([xc].all (inB 0 2) && [xo].all (inB (-1) 4294967295) && R) = T := by
        rw [← hT]; simp [moB]
      have K1 := fun (W : World) (z : Nat) (hz : W.heap.size = z) => within_lit 0 2 [xc] 1 W rfl (by simp) hz
      have K2 := fun (W : World) (z : Nat) (hz : W.heap.size = z) => within_lit (-1) 4294967295 [xo] 1 W rfl (by simp) hz
      simp only [List.map_cons, List.map_nil] at K1 K2
      have f1 := f.alloc (.cells #[.int .i64 xc, .int .i64 xo] 89)
      have is1 := Is.new wr 89 #[.int .i64 xc, .int .i64 xo]
      generalize hb1 : [xc].all (inB 0 2) = b1 at *
      generalize hb2 : [xo].all (inB (-1) 4294967295) = b2 at *
      clear hb1 hb2
      have HT := Lib.hid hT
      clear hT
      go_upto_region 4 with (fail)
      generalize wr.heap.size = nb at *
      generalize wr.alloc _ = w1 at *
      have c0 : w1.cell? ⟨nb, 0, none⟩ = some (.int .i64 xc) := is1.cell 0
      have c1 : w1.cell? ⟨nb, 1, none⟩ = some (.int .i64 xo) := is1.cell 1
      cases b1
      · have hT := HT.out
        rw [Bool.false_and, Bool.false_and] at hT
        subst hT
        go_wp2_with fail
        refine (K1 w1 _ rfl).mono ?_
        rintro _ w2 ⟨rfl, f2⟩
        go_wp2_with fail
        go_ret
        exact ⟨rfl, fr_nil f1 f2⟩
      · go_wp2_with fail
        refine (K1 w1 _ rfl).mono ?_
        rintro _ w2 ⟨rfl, f2⟩
        have is2 := is1.fr f2 id
        have c0 : w2.cell? ⟨nb, 0, none⟩ = some (.int .i64 xc) := is2.cell 0
        have c1 : w2.cell? ⟨nb, 1, none⟩ = some (.int .i64 xo) := is2.cell 1
        have f3 := fr_nil f1 f2
        clear K1 is1 f1 f2
        have hT := HT.out
        rw [Bool.true_and] at hT
        cases b2
        · rw [Bool.false_and] at hT
          subst hT
          go_wp2_with fail
          refine (K2 w2 _ rfl).mono ?_
          rintro _ w4 ⟨rfl, f4⟩
          go_wp2_with fail
          go_ret
          exact ⟨rfl, fr_nil f3 f4⟩
        · rw [Bool.true_and] at hT
          have HT := Lib.hid hT
          clear hT
          go_wp2_with fail
          refine (K2 w2 _ rfl).mono ?_
          rintro _ w4 ⟨rfl, f4⟩
          go_wp2_with fail
          rw [← HA.out]
          go_roundg (l.length - (k + 1))
          case measure => omega
          case rel => exact ⟨k + 1, by omega, rfl, by go_num, HR.out.trans HT.out, fr_nil f3 f4⟩
    · rw [List.drop_eq_nil_of_le (by omega)] at hT
      obtain rfl : T = true := by rw [← hT]; rfl
      go_wp2_with fail
      go_ret
      exact ⟨rfl, f⟩

theorem ln_cells {w : World} {b : Nat} {v0 v1 v2 v3 v4 v5 v6 v7 : Value} {t : TypeId} (h : Is w b t #[v0, v1, v2, v3, v4, v5, v6, v7]) : w.cell? ⟨b, 0, none⟩ = some v0 ∧ w.cell? ⟨b, 1, none⟩ = some v1 ∧ w.cell? ⟨b, 2, none⟩ = some v2 ∧ w.cell? ⟨b, 3, none⟩ = some v3 ∧ w.cell? ⟨b, 4, none⟩ = some v4 ∧ w.cell? ⟨b, 5, none⟩ = some v5 ∧ w.cell? ⟨b, 6, none⟩ = some v6 ∧ w.cell? ⟨b, 7, none⟩ = some v7 :=
  ⟨h.cell 0, h.cell 1, h.cell 2, h.cell 3, h.cell 4, h.cell 5, h.cell 6, h.cell 7⟩
set_option maxRecDepth 100000 in
set_option maxHeartbeats 4000000 in
theorem lines_any {A : Option Addr} {c : Nat} (l : List Ln) (w : World) (h : Rd w A (l.flatMap cLn)) (hl : l.length * 64 ≤ 140737488351232) :
    Calls Try.prog 42 #[.slice A l.length c] w fun e w' => e = .returned (.bool (l.all lnB)) ∧ Fr (fun _ => False) w w' := by
  generalize hT : l.all lnB = T
  have HT := Lib.hid hT
  clear hT
  go_enter Try.func42, Try.ntmps42
  go_wp2_with fail
  go_loopg [4, 7] l.length (fun gi _ v7 wr => ∃ k : Nat, k ≤ l.length ∧ gi = l.length - k ∧ v7 = .int .i64 (k : Nat) ∧ (l.drop k).all lnB = T ∧ Fr (fun _ => False) w wr)
  case atStart => exact ⟨0, Nat.zero_le _, rfl, rfl, HT.out, Fr.refl _ _⟩
  case round =>
    clear HT
    obtain ⟨k, hk, rfl, rfl, hT, f⟩ := hrel
    by_cases hlt : k < l.length
    · obtain ⟨g, o, hA, q0, q1, q2, q3, q4, q5, q6, q7⟩ := rd_ln (h.fr f fun _ _ => id) hlt
      rw [List.drop_eq_getElem_cons hlt, List.all_cons] at hT
      generalize hR : (l.drop (k + 1)).all lnB = R at hT
      have HR := Lib.hid hR
      clear hR
      generalize l[k] = x at *
      obtain ⟨x0, x1, x2, x3, x4, x5, x6, x7⟩ := x
      dsimp only at q0 q1 q2 q3 q4 q5 q6 q7
      have i1 : (0 : Int) ≤ (k : Int) := by omega
      have i2 : (k : Int) < (l.length : Int) := by omega
      rw [hA]
      have HA := Lib.hid hA
      clear hA
      have hT : ([x0, x1, x2, x3, x4, x5, x6].all (inB 0 4294967295) && [x7].all (inB 0 4294967296) && R) = T := by
        rw [← hT]; simp only [lnB, List.all_cons, List.all_nil, Bool.and_true]; rfl
      have K1 := fun (W : World) (z : Nat) (hz : W.heap.size = z) => within_lit 0 4294967295 [x0, x1, x2, x3, x4, x5, x6] 7 W rfl (by simp) hz
      have K2 := fun (W : World) (z : Nat) (hz : W.heap.size = z) => within_lit 0 4294967296 [x7] 1 W rfl (by simp) hz
      simp only [List.map_cons, List.map_nil] at K1 K2
      have f1 := f.alloc (.cells #[.int .i64 x0, .int .i64 x1, .int .i64 x2, .int .i64 x3, .int .i64 x4, .int .i64 x5, .int .i64 x6, .int .i64 x7] 49)
      have is1 := Is.new wr 49 #[.int .i64 x0, .int .i64 x1, .int .i64 x2, .int .i64 x3, .int .i64 x4, .int .i64 x5, .int .i64 x6, .int .i64 x7]
      generalize hb1 : [x0, x1, x2, x3, x4, x5, x6].all (inB 0 4294967295) = b1 at *
      generalize hb2 : [x7].all (inB 0 4294967296) = b2 at *
      clear hb1 hb2
      have HT := Lib.hid hT
      clear hT
      go_upto_region 4 with (fail)
      generalize wr.heap.size = nb at *
      generalize wr.alloc _ = w1 at *
      obtain ⟨c0, c1, c2, c3, c4, c5, c6, c7⟩ := ln_cells is1
      cases b1
      · have hT := HT.out
        rw [Bool.false_and, Bool.false_and] at hT
        subst hT
        go_wp2_with fail
        refine (K1 w1 _ rfl).mono ?_
        rintro _ w2 ⟨rfl, f2⟩
        go_wp2_with fail
        go_ret
        exact ⟨rfl, fr_nil f1 f2⟩
      · go_wp2_with fail
        refine (K1 w1 _ rfl).mono ?_
        rintro _ w2 ⟨rfl, f2⟩
        have is2 := is1.fr f2 id
        clear c0 c1 c2 c3 c4 c5 c6 c7
        have c7 : w2.cell? ⟨nb, 7, none⟩ = some (.int .i64 x7) := is2.cell 7
        have f3 := fr_nil f1 f2
        clear K1 is1 f1 f2
        have hT := HT.out
        rw [Bool.true_and] at hT
        cases b2
        · rw [Bool.false_and] at hT
          subst hT
          go_wp2_with fail
          refine (K2 w2 _ rfl).mono ?_
          rintro _ w4 ⟨rfl, f4⟩
          go_wp2_with fail
          go_ret
          exact ⟨rfl, fr_nil f3 f4⟩
        · rw [Bool.true_and] at hT
          have HT := Lib.hid hT
          clear hT
          go_wp2_with fail
          refine (K2 w2 _ rfl).mono ?_
          rintro _ w4 ⟨rfl, f4⟩
          go_wp2_with fail
          rw [← HA.out]
          go_roundg (l.length - (k + 1))
          case measure => omega
          case rel => exact ⟨k + 1, by omega, rfl, by go_num, HR.out.trans HT.out, fr_nil f3 f4⟩
    · rw [List.drop_eq_nil_of_le (by omega)] at hT
      obtain rfl : T = true := by rw [← hT]; rfl
      go_wp2_with fail
      go_ret
      exact ⟨rfl, f⟩

set_option maxRecDepth 100000 in
set_option maxHeartbeats 4000000 in
theorem lengths_raw {A1 A2 A3 A4 A5 B1 B2 B3 B4 B5 B6 : Option Addr} {s j g x r c1 c2 c3 c4 c5 n1 n2 n3 n4 n5 n6 d1 d2 d3 d4 d5 d6 : Nat} {t0 t1 t2 t3 : Int} {dy : Bool} (w : World) :
    Calls Try.prog 38 #[.agg #[.slice A1 s c1, .slice A2 j c2, .slice A3 g c3, .slice A4 x c4, .slice A5 r c5, .int .i64 t0, .int .i64 t1, .int .i64 t2, .int .i64 t3], .agg #[.slice B1 n1 d1, .slice B2 n2 d2, .slice B3 n3 d3, .slice B4 n4 d4, .slice B5 n5 d5, .slice B6 n6 d6, .bool dy]] w
      fun e w' => e = .returned (.bool (decide (n1 = s) && (decide (n2 = r) && (decide (n3 = s) && (decide (n4 = x) && (decide (n5 = 4) && decide (n6 = s))))))) ∧ Fr (fun _ => False) w w' := by
  have no : ∀ {a b : Nat}, ¬ a = b → ((a : Int) == (b : Int)) = false ∧ (a == b) = false ∧ decide (a = b) = false := fun {a b} h => ⟨by rw [beq_eq_false_iff_ne]; omega, by simpa using h, by simpa using h⟩
  have F := ((Fr.refl (fun _ => False) w).alloc (.cells #[.slice A1 s c1, .slice A2 j c2, .slice A3 g c3, .slice A4 x c4, .slice A5 r c5, .int .i64 t0, .int .i64 t1, .int .i64 t2, .int .i64 t3] 30)).alloc (.cells #[.slice B1 n1 d1, .slice B2 n2 d2, .slice B3 n3 d3, .slice B4 n4 d4, .slice B5 n5 d5, .slice B6 n6 d6, .bool dy] 35)
  have HF := Lib.hid F
  clear F
  by_cases h1 : n1 = s
  rotate_left
  · obtain ⟨e1, e2, e3⟩ := no h1
    rw [e3, Bool.false_and]
    clear h1 no
    go_enter Try.func38, Try.ntmps38
    go_wp2_with fail
    go_ret
    exact ⟨rfl, HF.out⟩
  subst h1
  rw [decide_eq_true rfl, Bool.true_and]
  by_cases h2 : n2 = r
  rotate_left
  · obtain ⟨e1, e2, e3⟩ := no h2
    rw [e3, Bool.false_and]
    clear h2 no
    go_enter Try.func38, Try.ntmps38
    go_wp2_with fail
    go_ret
    exact ⟨rfl, HF.out⟩
  subst h2
  rw [decide_eq_true rfl, Bool.true_and]
  by_cases h3 : n3 = n1
  rotate_left
  · obtain ⟨e1, e2, e3⟩ := no h3
    rw [e3, Bool.false_and]
    clear h3 no
    go_enter Try.func38, Try.ntmps38
    go_wp2_with fail
    go_ret
    exact ⟨rfl, HF.out⟩
  subst h3
  rw [decide_eq_true rfl, Bool.true_and]
  by_cases h4 : n4 = x
  rotate_left
  · obtain ⟨e1, e2, e3⟩ := no h4
    rw [e3, Bool.false_and]
    clear h4 no
    go_enter Try.func38, Try.ntmps38
    go_wp2_with fail
    go_ret
    exact ⟨rfl, HF.out⟩
  subst h4
  rw [decide_eq_true rfl, Bool.true_and]
  by_cases h5 : n5 = 4
  rotate_left
  · obtain ⟨e1, e2, e3⟩ := no h5
    have e4 : ((n5 : Int) == 4) = false := by rw [beq_eq_false_iff_ne]; omega
    rw [e3, Bool.false_and]
    clear h5 no
    go_enter Try.func38, Try.ntmps38
    go_wp2_with fail
    go_ret
    exact ⟨rfl, HF.out⟩
  subst h5
  rw [decide_eq_true rfl, Bool.true_and]
  by_cases h6 : n6 = n3
  rotate_left
  · obtain ⟨e1, e2, e3⟩ := no h6
    rw [e3]
    clear h6 no
    go_enter Try.func38, Try.ntmps38
    go_wp2_with fail
    go_ret
    exact ⟨rfl, HF.out⟩
  subst h6
  rw [decide_eq_true rfl]
  clear no
  go_enter Try.func38, Try.ntmps38
  go_wp2_with fail
  go_ret
  exact ⟨rfl, HF.out⟩
end Go.Proofs.Ytnnacdkijeoeoaa.Lk

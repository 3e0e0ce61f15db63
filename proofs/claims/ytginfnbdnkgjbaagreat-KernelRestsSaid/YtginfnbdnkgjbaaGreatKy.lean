/- Contracts and plain mathematics of earlier stages: Rap, Rsn. -/
import Derived.Test.YtginfnbdnkgjbaaGreatKk
import Derived.Test.YtginfnbdnkgjbaaGreatKe
import Derived.BigQuiet
import Derived.Deep.LoopGhost
import Derived.Test.YtginfnbdnkgjbaaGreatKg
namespace Go.Proofs.YtginfnbdnkgjbaaGreat
open Go.RowKit

theorem not_sec {n : Nat} {s : Int} (h : isSecB n s = false) : s < 0 ∨ ∃ k : Nat, s = k ∧ n ≤ k := by
  unfold isSecB at h
  simp at h
  by_cases h0 : s < 0
  · exact .inl h0
  · exact .inr ⟨s.toNat, by omega, by omega⟩

set_option maxHeartbeats 4000000 in
theorem rapproach_any (C : Cm) (k : Int) (w : World) (h : C.Ok w) : Calls Tryz.prog 65 #[C.val, .int .i64 k] w fun e w' => e = .returned (.int .i64 (apR C k)) ∧ Fr (fun _ => False) w w' := by
  have F := (Fr.refl (fun _ => False) w).alloc (.cells C.arr 30)
  have isC := Is.new w 30 C.arr
  have hrt := h.rts.fr F fun _ _ => id
  have hsg := h.sigs.fr F fun _ _ => id
  unfold apR Cm.val
  unfold Cm.arr at F isC hrt hsg ⊢
  cases hs : isSecB C.rs.length k
  · rw [if_neg (by decide)]
    rcases not_sec hs with hn | ⟨j, rfl, hj⟩
    · have d0 : decide (k < 0) = true := by simpa using hn
      clear hs hrt hsg isC
      go_enter Tryz.func65, Tryz.ntmps65
      go_upto_region 1 with (fail)
      go_quiet (fail)
      go_wp2_with fail
      go_ret
      exact ⟨rfl, F.drewN _⟩
    · have d0 : decide ((j : Int) < 0) = false := by rw [decide_eq_false_iff_not]; omega
      have d1 : decide (C.rs.length ≤ j) = true := by simpa using hj
      have d2 : decide ((C.rs.length : Int) ≤ (j : Int)) = true := by rw [decide_eq_true_eq]; omega
      have p4 := isC.cell 4
      simp only [List.getElem?_toArray, List.getElem?_cons_zero, List.getElem?_cons_succ] at p4
      clear hs hrt hsg isC
      go_enter Tryz.func65, Tryz.ntmps65
      go_upto_region 1 with (fail)
      go_quiet (fail)
      go_wp2_with fail
      go_ret
      exact ⟨rfl, F.drewN _⟩
  · rw [if_pos rfl]
    obtain ⟨j, rfl, hj⟩ := isSecB_true hs
    rw [Int.toNat_natCast, rs_at hj]
    obtain ⟨g, o, hA, q0, _, _, _, _, _⟩ := rd_ro hrt hj
    generalize C.rs[j].entry = en at *
    have d0 : decide ((j : Int) < 0) = false := by rw [decide_eq_false_iff_not]; omega
    have d1 : decide (C.rs.length ≤ j) = false := by rw [decide_eq_false_iff_not]; omega
    have d2 : decide ((C.rs.length : Int) ≤ (j : Int)) = false := by rw [decide_eq_false_iff_not]; omega
    have p4 := isC.cell 4
    have p2 := isC.cell 2
    simp only [List.getElem?_toArray, List.getElem?_cons_zero, List.getElem?_cons_succ] at p4 p2
    have i1 : (0 : Int) ≤ (j : Int) := by omega
    have i2 : (j : Int) < (C.rs.length : Int) := by omega
    rw [hA] at p4 p2 q0 F hsg ⊢
    clear hs hA hrt isC
    unfold apM
    cases he : isSecB C.sg.length en
    · rw [if_neg (by decide)]
      rcases not_sec he with hn | ⟨e, rfl, hle⟩
      · have d3 : decide (en < 0) = true := by simpa using hn
        clear he hsg
        go_enter Tryz.func65, Tryz.ntmps65
        go_upto_region 1 with (fail)
        go_quiet (fail)
        go_wp2_with fail
        go_ret
        exact ⟨rfl, F.drewN _⟩
      · have d3 : decide ((e : Int) < 0) = false := by rw [decide_eq_false_iff_not]; omega
        have d4 : decide (C.sg.length ≤ e) = true := by simpa using hle
        have d5 : decide ((C.sg.length : Int) ≤ (e : Int)) = true := by rw [decide_eq_true_eq]; omega
        clear he hsg
        go_enter Tryz.func65, Tryz.ntmps65
        go_upto_region 1 with (fail)
        go_quiet (fail)
        go_wp2_with fail
        go_ret
        exact ⟨rfl, F.drewN _⟩
    · rw [if_pos rfl]
      obtain ⟨e, rfl, hle⟩ := isSecB_true he
      rw [sgAt_nat hle]
      obtain ⟨g2, o2, hA3, s0, _⟩ := rd_sg hsg hle
      generalize C.sg[e].sec = sc at *
      have d3 : decide ((e : Int) < 0) = false := by rw [decide_eq_false_iff_not]; omega
      have d4 : decide (C.sg.length ≤ e) = false := by rw [decide_eq_false_iff_not]; omega
      have d5 : decide ((C.sg.length : Int) ≤ (e : Int)) = false := by rw [decide_eq_false_iff_not]; omega
      have i3 : (0 : Int) ≤ (e : Int) := by omega
      have i4 : (e : Int) < (C.sg.length : Int) := by omega
      rw [hA3] at p2 p4 q0 s0 F ⊢
      clear he hA3 hsg
      go_enter Tryz.func65, Tryz.ntmps65
      go_upto_region 1 with (fail)
      go_quiet (fail)
      go_upto_region 3 with (fail)
      go_quiet (fail)
      go_wp2_with fail
      go_ret
      exact ⟨rfl, (F.drewN _).drewN _⟩

/-- a signal of these at another place than that -/
def atL (s e b : Int) : List Sg → Int → Bool
  | [], _ => false
  | x :: r, i => (decide (x.sec = s) && (decide (x.fin = e) && !decide (i = b))) || atL s e b r (i + 1)
set_option maxHeartbeats 4000000 in
theorem rat_any (C : Cm) (s e b : Int) (w : World) (h : C.Ok w) : Calls Tryz.prog 130 #[C.val, .int .i64 s, .int .i64 e, .int .i64 b] w fun x w' => x = .returned (.bool (atL s e b C.sg 0)) ∧ Fr (fun _ => False) w w' := by
  have F := (Fr.refl (fun _ => False) w).alloc (.cells C.arr 30)
  have isC := Is.new w 30 C.arr
  have b3 := h.b3
  generalize hT : atL s e b C.sg 0 = T
  have HT := Lib.hid hT
  clear hT
  unfold Cm.val
  unfold Cm.arr at F isC ⊢
  have p2 := isC.cell 2
  simp only [List.getElem?_toArray, List.getElem?_cons_zero, List.getElem?_cons_succ] at p2
  go_enter Tryz.func130, Tryz.ntmps130
  go_wp2_with fail
  clear p2 isC
  go_loopg [9, 10, 14] C.sg.length (fun gi _ _ v14 wr => ∃ k : Nat, k ≤ C.sg.length ∧ gi = C.sg.length - k ∧ v14 = .int .i64 (k : Nat) ∧ atL s e b (C.sg.drop k) (k : Nat) = T ∧ Fr (fun _ => False) w wr)
  case atStart => exact ⟨0, Nat.zero_le _, rfl, rfl, HT.out, F⟩
  case round =>
    clear HT F
    obtain ⟨k, hk, rfl, rfl, hT, f⟩ := hrel
    by_cases hlt : k < C.sg.length
    · obtain ⟨g, o, hA, q0, q1⟩ := rd_sg (h.sigs.fr f fun _ _ => id) hlt
      rw [List.drop_eq_getElem_cons hlt, atL] at hT
      generalize hrest : atL s e b (C.sg.drop (k + 1)) ((k : Nat) + 1 : Int) = rest at hT
      have HR := Lib.hid hrest
      clear hrest
      generalize C.sg[k] = y at *
      obtain ⟨ys, ye⟩ := y
      dsimp only at *
      have HA := Lib.hid hA
      have f1 := f.alloc (.cells #[.int .i64 ys, .int .i64 ye] 152)
      rw [hA]
      clear hA
      have i1 : (0 : Int) ≤ (k : Int) := by omega
      have i2 : (k : Int) < (C.sg.length : Int) := by omega
      have hbr : ((ys == s) = true ∧ (ye == e) = true ∧ ((k : Int) != b) = true ∧ T = true) ∨ (((ys == s) = false ∨ ((ys == s) = true ∧ (ye == e) = false) ∨ ((ys == s) = true ∧ (ye == e) = true ∧ ((k : Int) != b) = false)) ∧ rest = T) := by
        rw [← hT]
        by_cases c1 : ys = s <;> by_cases c2 : ye = e <;> by_cases c3 : (k : Int) = b <;> simp [c1, c2, c3]
      have HT := Lib.hid hT
      clear hT
      rcases hbr with ⟨e1, e2, e3, rfl⟩ | ⟨hbr, hr⟩
      · go_wp2_with fail
        go_ret
        exact ⟨rfl, f1⟩
      · have HR2 := Lib.hid (HR.out.trans hr)
        clear hr HR HT
        rcases hbr with e1 | ⟨e1, e2⟩ | ⟨e1, e2, e3⟩
        all_goals
          go_wp2_with fail
          rw [← HA.out]
          go_roundg (C.sg.length - (k + 1))
          case measure => omega
          case rel => exact ⟨k + 1, by omega, rfl, by go_num, by rw [← HR2.out]; rfl, f1⟩
    · rw [List.drop_eq_nil_of_le (by omega), atL] at hT
      subst hT
      go_wp2_with fail
      go_ret
      exact ⟨rfl, f⟩
end Go.Proofs.YtginfnbdnkgjbaaGreat

namespace Go.Proofs.YtginfnbdnkgjbaaGreat
open Go.RowKit

theorem nd_ways6 (x y : Nd) : (x = y) ∨ (x ≠ y ∧ ¬ x.sec = y.sec) ∨ (x ≠ y ∧ x.sec = y.sec ∧ ¬ x.pos = y.pos) := by
  obtain ⟨a, b⟩ := x
  obtain ⟨c, d⟩ := y
  simp only [ne_eq, Nd.mk.injEq]
  omega

set_option maxHeartbeats 2000000 in
theorem rsameneeds_any {A A' : Option Addr} {c c' : Nat} {a b : List Nd} (w : World) (h : Rd w A (cellsN a)) (h' : Rd w A' (cellsN b)) (hl : a.length ≤ 9223372036854775807) :
    Calls Tryz.prog 63 #[.slice A a.length c, .slice A' b.length c'] w fun e w' => e = .returned (.bool (decide (a = b))) ∧ Fr (fun _ => False) w w' := by
  by_cases hn : a.length = b.length
  rotate_left
  · have e0 : ((a.length : Int) != (b.length : Int)) = true := by simp [bne_iff_ne]; omega
    have e1 : decide (a = b) = false := by rw [decide_eq_false_iff_not]; intro e; exact hn (by rw [e])
    rw [e1]
    go_enter Tryz.func63, Tryz.ntmps63
    go_wp2_with fail
    go_ret
    exact ⟨rfl, Fr.refl _ _⟩
  generalize hT : decide (a = b) = T
  have HT := Lib.hid hT
  clear hT
  have hbl : b.length = a.length := hn.symm
  rw [hbl]
  have HN := Lib.hid hbl
  clear hbl hn
  have e0 : ((a.length : Int) != (a.length : Int)) = false := by simp
  go_enter Tryz.func63, Tryz.ntmps63
  go_wp2_with fail
  go_loopg [5, 13] a.length (fun gi _ v13 wr => ∃ k : Nat, k ≤ a.length ∧ gi = a.length - k ∧ v13 = .int .i64 (k : Nat) ∧ decide (a.drop k = b.drop k) = T ∧ Fr (fun _ => False) w wr)
  case atStart => exact ⟨0, Nat.zero_le _, rfl, rfl, HT.out, Fr.refl _ _⟩
  case round =>
    clear HT
    obtain ⟨k, hk, rfl, rfl, hT, f⟩ := hrel
    by_cases hlt : k < a.length
    · have hlt' : k < b.length := by rw [HN.out]; exact hlt
      obtain ⟨g, o, hA, q0, q1⟩ := rd_nd (h.fr f fun _ _ => id) hlt
      obtain ⟨g', o', hA', r0, r1⟩ := rd_nd (h'.fr f fun _ _ => id) hlt'
      rw [List.drop_eq_getElem_cons hlt, List.drop_eq_getElem_cons hlt'] at hT
      generalize a[k] = x at *
      generalize b[k] = y at *
      have i1 : (0 : Int) ≤ (k : Int) := by omega
      have i2 : (k : Int) < (a.length : Int) := by omega
      rw [hA, hA']
      have HA := Lib.hid hA
      have HA' := Lib.hid hA'
      clear hA hA'
      rcases nd_ways6 x y with hx | ⟨hx, h1⟩ | ⟨hx, h1, h2⟩
      · subst hx
        have hT2 : decide (a.drop (k + 1) = b.drop (k + 1)) = T := by rw [← hT]; simp
        have HT := Lib.hid hT2
        clear hT hT2
        go_upto_region 6 with (fail)
        go_quiet (fail)
        go_wp2_with fail
        rw [← HA.out, ← HA'.out]
        go_roundg (a.length - (k + 1))
        case measure => omega
        case rel => exact ⟨k + 1, by omega, rfl, by go_num, HT.out, f.drewN _⟩
      · have hT2 : T = false := by rw [← hT]; simp [hx]
        subst hT2
        have h1' : ¬ y.sec = x.sec := fun e => h1 e.symm
        clear hT hx
        obtain ⟨xs, xp⟩ := x
        obtain ⟨ys, yp⟩ := y
        dsimp only at *
        go_upto_region 6 with (fail)
        go_quiet (fail)
        go_wp2_with fail
        go_ret
        exact ⟨rfl, f.drewN _⟩
      · have hT2 : T = false := by rw [← hT]; simp [hx]
        subst hT2
        have h2' : ¬ y.pos = x.pos := fun e => h2 e.symm
        clear hT hx
        obtain ⟨xs, xp⟩ := x
        obtain ⟨ys, yp⟩ := y
        dsimp only at *
        subst h1
        go_upto_region 6 with (fail)
        go_quiet (fail)
        go_wp2_with fail
        go_ret
        exact ⟨rfl, f.drewN _⟩
    · rw [List.drop_eq_nil_of_le (by omega), List.drop_eq_nil_of_le (by rw [HN.out]; omega)] at hT
      obtain rfl : T = true := by rw [← hT]; rfl
      go_wp2_with fail
      go_ret
      exact ⟨rfl, f⟩

set_option maxHeartbeats 2000000 in
theorem rsameints_any {A A' : Option Addr} {c c' : Nat} {a b : List Int} (w : World) (h : Rd w A (a.map (Value.int .i64))) (h' : Rd w A' (b.map (Value.int .i64))) (hl : a.length ≤ 9223372036854775807) :
    Calls Tryz.prog 66 #[.slice A a.length c, .slice A' b.length c'] w fun e w' => e = .returned (.bool (decide (a = b))) ∧ Fr (fun _ => False) w w' := by
  by_cases hn : a.length = b.length
  rotate_left
  · have e0 : ((a.length : Int) != (b.length : Int)) = true := by simp [bne_iff_ne]; omega
    have e1 : decide (a = b) = false := by rw [decide_eq_false_iff_not]; intro e; exact hn (by rw [e])
    rw [e1]
    go_enter Tryz.func66, Tryz.ntmps66
    go_wp2_with fail
    go_ret
    exact ⟨rfl, Fr.refl _ _⟩
  generalize hT : decide (a = b) = T
  have HT := Lib.hid hT
  clear hT
  have hbl : b.length = a.length := hn.symm
  rw [hbl]
  have HN := Lib.hid hbl
  clear hbl hn
  have e0 : ((a.length : Int) != (a.length : Int)) = false := by simp
  go_enter Tryz.func66, Tryz.ntmps66
  go_wp2_with fail
  go_loopg [5, 13] a.length (fun gi _ v13 wr => ∃ k : Nat, k ≤ a.length ∧ gi = a.length - k ∧ v13 = .int .i64 (k : Nat) ∧ decide (a.drop k = b.drop k) = T ∧ Fr (fun _ => False) w wr)
  case atStart => exact ⟨0, Nat.zero_le _, rfl, rfl, HT.out, Fr.refl _ _⟩
  case round =>
    clear HT
    obtain ⟨k, hk, rfl, rfl, hT, f⟩ := hrel
    by_cases hlt : k < a.length
    · have hlt' : k < b.length := by rw [HN.out]; exact hlt
      obtain ⟨g, o, hA, q0⟩ := rd_int (h.fr f fun _ _ => id) hlt
      obtain ⟨g', o', hA', r0⟩ := rd_int (h'.fr f fun _ _ => id) hlt'
      rw [List.drop_eq_getElem_cons hlt, List.drop_eq_getElem_cons hlt'] at hT
      generalize a[k] = x at *
      generalize b[k] = y at *
      have i1 : (0 : Int) ≤ (k : Int) := by omega
      have i2 : (k : Int) < (a.length : Int) := by omega
      rw [hA, hA']
      have HA := Lib.hid hA
      have HA' := Lib.hid hA'
      clear hA hA'
      by_cases hx : x = y
      · subst hx
        have hT2 : decide (a.drop (k + 1) = b.drop (k + 1)) = T := by rw [← hT]; simp
        have HT := Lib.hid hT2
        have hbn : (x != x) = false := by simp
        clear hT hT2
        go_upto_region 6 with (fail)
        go_quiet (fail)
        go_wp2_with fail
        rw [← HA.out, ← HA'.out]
        go_roundg (a.length - (k + 1))
        case measure => omega
        case rel => exact ⟨k + 1, by omega, rfl, by go_num, HT.out, f.drewN _⟩
      · have hT2 : T = false := by rw [← hT]; simp [hx]
        subst hT2
        have hbn : (x != y) = true := by simpa [bne_iff_ne] using hx
        clear hT hx
        go_upto_region 6 with (fail)
        go_quiet (fail)
        go_wp2_with fail
        go_ret
        exact ⟨rfl, f.drewN _⟩
    · rw [List.drop_eq_nil_of_le (by omega), List.drop_eq_nil_of_le (by rw [HN.out]; omega)] at hT
      obtain rfl : T = true := by rw [← hT]; rfl
      go_wp2_with fail
      go_ret
      exact ⟨rfl, f⟩
end Go.Proofs.YtginfnbdnkgjbaaGreat


/- The walk of SeqRows: in a row of numbers that rise one by one, of which some are left out, just those between are lost. -/
import Derived.Test.YtbmjbpehoohdlaaSums
namespace Go.Proofs.Ytbmjbpehoohdlaa
open Go.RowKit

theorem of_more (a : Int) (k : Nat) : ofZ (ofZ (a + (k : Int)) + 1) = ofZ (a + ((k + 1 : Nat) : Int)) := by unfold ofZ; omega
theorem of_last (a : Int) (d : Nat) : ofZ (ofZ (ofZ a + (d : Int)) + 1) = ofZ (ofZ a + ((d : Int) + 1)) := by unfold ofZ; omega
theorem of_none (a : Int) : ofZ (ofZ a + ((0 : Nat) : Int)) = ofZ a := by unfold ofZ; omega

set_option maxRecDepth 100000 in
set_option maxHeartbeats 1600000 in
theorem turn_walk (s : Int) (A : Option Addr) (c : Nat) (l : List Int) (hl : l.length * 8 ≤ 140737488351232) (w : World) (h : Rd w A (l.map (Value.int .i64))) :
    Calls Try.prog 5 #[.int .i64 s, .slice A l.length c] w fun e w' => e = .returned (.bool true) ∧ Below w.heap.size w w' := by
  obtain ⟨i1, hi, hz0, hz1, hz2⟩ := info_parts Try.infoI
  have KL := lives_any w
  have K1 := of_any s
  have hos := of_of s
  generalize ofZ s = t at *
  go_enter Try.func5, Try.ntmps5
  go_wp2_with fail
  refine KL.mono ?_
  clear KL
  rintro e w1 ⟨rfl, hf1⟩
  go_wp2_with fail
  refine (K1 _).mono ?_
  clear K1
  rintro e w2 ⟨rfl, rfl⟩
  have o0 := own_one w2 w.heap.size 3 t hf1.size
  have f0 := hf1.alloc (.cells #[.int .i64 t] 3)
  clear hf1
  go_wp2_with fail
  go_loopw [5, 6, 7, 20] (fun x v lo i wr => ∃ k r, k ≤ l.length ∧ i = .int .i64 (k : Nat) ∧ r.length = k ∧ x = .int .i64 (ofZ (lostFrom t r).2) ∧ lo = .int .i64 (lostFrom t r).1 ∧ wr.ownsRow w.heap.size 3 1 v (k + 1) ((t :: r).map (Value.int .i64)) ∧ Fr (fun _ => False) w wr) (fun _ _ _ i _ => l.length - (intOf i).toNat)
  case atStart => exact ⟨0, [], Nat.zero_le _, rfl, rfl, by rw [show (lostFrom t []).2 = t from rfl, hos], rfl, o0, f0⟩
  case round =>
    clear o0 f0
    obtain ⟨k, r, hk, rfl, hr, rfl, rfl, o1, f1⟩ := hrel
    obtain ⟨A1, c1, rfl, hc1, _⟩ := own_form o1
    by_cases hlt : k < l.length
    · obtain ⟨g, o, rfl, hg, hc⟩ := (h.fr f1 (fun _ _ => id)) (by simp; omega)
      have cc : wr.cell? ⟨g, o + k, none⟩ = some (.int .i64 l[k]) := hc k (.int .i64 l[k]) (by rw [List.getElem?_map, List.getElem?_eq_getElem hlt]; rfl)
      obtain ⟨d, hd, hd1⟩ := umod l[k] 100 (by decide) (by decide)
      rw [show ((100 : Nat) : Int) = 100 from rfl] at hd
      have hst := lost_step t r ((d : Int) + 1) (by omega) (by omega)
      have hol := of_last (lostFrom t r).2 d
      have hon := of_none (lostFrom t r).2
      have hbl := lostFrom_bd t r
      rw [hr] at hbl
      generalize l[k] = x at *
      have hoo := of_of (ofZ (lostFrom t r).2 + ((d : Int) + 1))
      generalize ofZ (ofZ (lostFrom t r).2 + ((d : Int) + 1)) = y at *
      generalize ofZ (lostFrom t r).2 = z at *
      generalize hlo : (lostFrom t r).1 = lo at *
      have HS := Lib.hid hst
      have HO := Lib.hid hoo
      have HL := Lib.hid hol
      have HN := Lib.hid hon
      clear hst hoo hlo hc hol hon
      go_wp2_with fail
      simp only [hd]
      clear hd cc
      go_loop [5, 11] (fun x5 i => ∃ j, j ≤ d ∧ i = .int .i64 (j : Nat) ∧ x5 = .int .i64 (ofZ (z + (j : Int)))) (fun _ i => d - (intOf i).toNat)
      case atStart => exact ⟨0, Nat.zero_le _, rfl, by rw [HN.out]⟩
      case round =>
        obtain ⟨j, hj, rfl, rfl⟩ := hrel
        by_cases hjd : j < d
        · have N1 := next_any (ofZ (z + (j : Int))) wr
          rw [of_more] at N1
          have hb1 := of_bd (z + (j : Int))
          have hb2 := of_bd (z + ((j + 1 : Nat) : Int))
          generalize ofZ (z + (j : Int)) = p at *
          generalize hq : ofZ (z + ((j + 1 : Nat) : Int)) = q at *
          have HQ := Lib.hid hq
          clear hq o1 h
          go_wp2_with fail
          refine N1.mono ?_
          clear N1
          rintro e w3 ⟨rfl, rfl⟩
          go_wp2
          go_round
          case rel => exact ⟨j + 1, by omega, by go_num, by rw [HQ.out]⟩
          case measure => simp [intOf]; omega
        · have hj' : j = d := by omega
          subst hj'
          have N1 := next_any (ofZ (z + (j : Int))) wr
          rw [HL.out] at N1
          generalize ofZ (z + (j : Int)) = p at *
          go_wp2_with fail
          refine N1.mono ?_
          clear N1
          rintro e w3 ⟨rfl, rfl⟩
          go_wp2_with (at_builtin; refine wpList_append_rd _ rfl (.tmp 40) (.tmp 42) 22 rfl w.heap.size 3 i1 (.int .i64 0) 8 Try.underlying22 hi hz0 hz1 hz2 rfl _ (k + 1) ((t :: r).map (Value.int .i64)) rfl (own_fr o1 ((Fr.refl (fun _ => False) w3).alloc (.cells #[.int .i64 y] 3)) (fun _ _ => id)) _ 1 1 [.int .i64 y] rfl rfl (Rd.one w3 (.int .i64 y) 3) (by intro u hu; simp at hu; subst hu; rfl) (by unfold maxLen; omega) (by omega) (by have := f1.size; simp; omega) ?_)
          intro v2 w4 o2 hg2
          have f2 := own_step (f1.alloc (.cells #[.int .i64 y] 3)) (own_fr o1 ((Fr.refl (fun _ => False) w3).alloc (.cells #[.int .i64 y] 3)) (fun _ _ => id)) hg2
          clear o1 f1 hg2
          go_wp2
          go_roundw
          case rel =>
            refine ⟨k + 1, r ++ [y], by omega, by go_num, by simp; omega, ?_, ?_, ?_, f2⟩
            · rw [HS.out, HO.out]
            · rw [HS.out]; go_num
            · rw [← List.cons_append, List.map_append]; exact o2
          case measure => simp [intOf]; omega
    · have KE := lost_any (c := c1) (own_rd o1) (by simp; omega) (by simp; omega)
      rw [List.length_cons, hr] at KE
      rw [show lostL (t :: r) = (lostFrom t r).1 from rfl] at KE
      generalize (lostFrom t r).1 = lo at *
      clear o1
      go_wp2_with fail
      refine KE.mono ?_
      clear KE
      rintro e w3 ⟨rfl, n, rfl⟩
      go_wp2
      go_ret
      exact ⟨rfl, (f1.drewN n).toBelow0⟩
end Go.Proofs.Ytbmjbpehoohdlaa

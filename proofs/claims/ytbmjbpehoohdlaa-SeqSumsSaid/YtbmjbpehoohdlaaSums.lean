/- The walk of SeqSums: of a row that goes on by so many each time, never by half the round, all but those that came are lost. -/
import Derived.Test.YtbmjbpehoohdlaaOrder
namespace Go.Proofs.Ytbmjbpehoohdlaa
open Go.RowKit

theorem Try.infoI : (Try.prog.info? 3).map (fun i => (i.zero, i.size, i.bytes)) = some (some (.int .i64 0), 1, 8) := by kernel_rfl
theorem gap_mod {a b : Int} : gapZ a b = gapZ (ofZ a) b := by unfold gapZ ofZ; omega
theorem gap_step (a g : Int) (h0 : 0 < g) (h1 : g < 32768) : gapZ a (ofZ (ofZ a + g)) = g := by unfold gapZ ofZ; omega
theorem of_of (a : Int) : ofZ (ofZ a) = ofZ a := by unfold ofZ; omega
theorem lost_step (x : Int) (r : List Int) (g : Int) (h0 : 0 < g) (h1 : g < 32768) : lostFrom x (r ++ [ofZ (ofZ (lostFrom x r).2 + g)]) = ((lostFrom x r).1 + (g - 1), ofZ (ofZ (lostFrom x r).2 + g)) := by
  rw [lostFrom_snoc]
  unfold lostStep
  rw [gap_step _ g h0 h1, if_pos h0]

theorem own_one (w : World) (base : Nat) (t : TypeId) (x : Int) (hb : base ≤ w.heap.size) : (w.alloc (.cells #[.int .i64 x] t)).ownsRow base t 1 (.slice (some ⟨w.heap.size, 0, none⟩) 1 1) 1 [.int .i64 x] :=
  ⟨by simp, .inr ⟨w.heap.size, 1, #[.int .i64 x], rfl, hb, heap_alloc_new w _, Nat.le_refl _, by unfold maxLen; omega, by simp, by simp⟩⟩
set_option maxRecDepth 100000 in
set_option maxHeartbeats 1600000 in
theorem sums_walk (s : Int) (A : Option Addr) (c : Nat) (l : List Int) (w : World) (h : Rd w A (l.map (Value.int .i64))) :
    Calls Try.prog 8 #[.int .i64 s, .slice A l.length c] w fun e w' => e = .returned (.bool true) ∧ Below w.heap.size w w' := by
  obtain ⟨i1, hi, hz0, hz1, hz2⟩ := info_parts Try.infoI
  have KL := lives_any w
  have K1 := of_any s
  go_enter Try.func8, Try.ntmps8
  go_wp2_with fail
  refine KL.mono ?_
  clear KL
  rintro e w1 ⟨rfl, hf1⟩
  go_wp2_with fail
  refine (K1 _).mono ?_
  clear K1
  rintro e w2 ⟨rfl, rfl⟩
  have o0 : (w2.alloc (.cells #[.int .i64 s] 3)).ownsRow w.heap.size 3 1 (.slice (some ⟨w2.heap.size, 0, none⟩) 1 1) 1 [.int .i64 s] := own_one w2 _ _ s hf1.size
  have f0 := hf1.alloc (.cells #[.int .i64 s] 3)
  clear hf1
  go_wp2_with fail
  go_loopw [5, 6, 7, 19] (fun at_ v lo i wr => ∃ k r, k ≤ l.length ∧ i = .int .i64 (k : Nat) ∧ r.length = k ∧ k ≤ 200 ∧ at_ = .int .i64 (ofZ (lostFrom s r).2) ∧ lo = .int .i64 (lostFrom s r).1 ∧ wr.ownsRow w.heap.size 3 1 v (k + 1) ((s :: r).map (Value.int .i64)) ∧ Fr (fun _ => False) w wr) (fun _ _ _ i _ => l.length - (intOf i).toNat)
  case atStart => exact ⟨0, [], Nat.zero_le _, rfl, rfl, by omega, rfl, rfl, o0, f0⟩
  case round =>
    clear o0 f0
    obtain ⟨k, r, hk, rfl, hr, hk2, rfl, rfl, o1, f1⟩ := hrel
    have hend : ∀ (A1 : Option Addr) (c1 : Nat), wr.ownsRow w.heap.size 3 1 (.slice A1 (k + 1) c1) (k + 1) ((s :: r).map (Value.int .i64)) → Calls Try.prog 16 #[.slice A1 (k + 1) c1] wr fun e w' => e = .returned (.int .i64 (lostFrom s r).1) ∧ ∃ n, w' = wr.drewN n := by
      intro A1 c1 hO
      obtain ⟨A', c', hv, hc', _⟩ := own_form hO
      injection hv with e1 e2 e3
      have K := lost_any (c := c1) (own_rd hO) (by simp; omega) (by simp; omega)
      rw [List.length_cons, hr] at K
      exact K
    obtain ⟨A1, c1, rfl, _, _⟩ := own_form o1
    have KE := hend A1 c1 o1
    clear hend
    by_cases hlt : k < l.length
    · by_cases h200 : k < 200
      · obtain ⟨g, o, rfl, hg, hc⟩ := (h.fr f1 (fun _ _ => id)) (by simp; omega)
        have c1 : wr.cell? ⟨g, o + k, none⟩ = some (.int .i64 l[k]) := hc k (.int .i64 l[k]) (by rw [List.getElem?_map, List.getElem?_eq_getElem hlt]; rfl)
        obtain ⟨d, hd, hd1⟩ := umod l[k] 32767 (by decide) (by decide)
        rw [show ((32767 : Nat) : Int) = 32767 from rfl] at hd
        have hst := lost_step s r (1 + (d : Int)) (by omega) (by omega)
        have K2 := of_any (ofZ (lostFrom s r).2 + (1 + (d : Int)))
        have hb := of_bd (lostFrom s r).2
        have hbl := lostFrom_bd s r
        rw [hr] at hbl
        generalize l[k] = x at *
        have hoo := of_of (ofZ (lostFrom s r).2 + (1 + (d : Int)))
        generalize ofZ (ofZ (lostFrom s r).2 + (1 + (d : Int))) = y at *
        generalize ofZ (lostFrom s r).2 = t at *
        generalize hlo : (lostFrom s r).1 = lo at *
        have HS := Lib.hid hst
        have HO := Lib.hid hoo
        clear hst hoo hlo hc KE
        go_wp2_with fail
        refine (K2 _).mono ?_
        clear K2
        rintro e w3 ⟨rfl, rfl⟩
        go_wp2_with (at_builtin; refine wpList_append_rd _ rfl (.tmp 35) (.tmp 37) 22 rfl w.heap.size 3 i1 (.int .i64 0) 8 Try.underlying22 hi hz0 hz1 hz2 rfl _ (k + 1) ((s :: r).map (Value.int .i64)) rfl (own_fr o1 ((Fr.refl (fun _ => False) w3).alloc (.cells #[.int .i64 y] 3)) (fun _ _ => id)) _ 1 1 [.int .i64 y] rfl rfl (Rd.one w3 (.int .i64 y) 3) (by intro u hu; simp at hu; subst hu; rfl) (by unfold maxLen; omega) (by omega) (by have := f1.size; simp; omega) ?_)
        intro v2 w4 o2 hg2
        have f2 := own_step (f1.alloc (.cells #[.int .i64 y] 3)) (own_fr o1 ((Fr.refl (fun _ => False) w3).alloc (.cells #[.int .i64 y] 3)) (fun _ _ => id)) hg2
        clear o1 f1 hg2
        go_wp2
        go_roundw
        case rel =>
          refine ⟨k + 1, r ++ [y], by omega, by go_num, by simp; omega, by omega, ?_, ?_, ?_, f2⟩
          · rw [HS.out, HO.out]
          · rw [HS.out]
          · rw [← List.cons_append, List.map_append]; exact o2
        case measure => simp [intOf]; omega
      · obtain ⟨g, o, rfl, hg, hc⟩ := (h.fr f1 (fun _ _ => id)) (by simp; omega)
        have c1 : wr.cell? ⟨g, o + k, none⟩ = some (.int .i64 l[k]) := hc k (.int .i64 l[k]) (by rw [List.getElem?_map, List.getElem?_eq_getElem hlt]; rfl)
        generalize l[k] = x at *
        generalize (lostFrom s r).1 = lo at *
        clear hc o1
        go_wp2_with fail
        refine KE.mono ?_
        clear KE
        rintro e w3 ⟨rfl, n, rfl⟩
        go_wp2
        go_ret
        exact ⟨rfl, (f1.drewN n).toBelow0⟩
    · generalize (lostFrom s r).1 = lo at *
      clear o1
      go_wp2_with fail
      refine KE.mono ?_
      clear KE
      rintro e w3 ⟨rfl, n, rfl⟩
      go_wp2
      go_ret
      exact ⟨rfl, (f1.drewN n).toBelow0⟩
end Go.Proofs.Ytbmjbpehoohdlaa

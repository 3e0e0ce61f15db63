/- The walk of SeqExact: numbers go round, and are compared, as the document says, for all whole numbers; the list stays. -/
import Derived.Test.YtbmjbpehoohdlaaRef
namespace Go.Proofs.Ytbmjbpehoohdlaa
open Go.RowKit

theorem of_one' (a : Int) : ofZ (ofZ a + 1) = ofZ (a + 1) := by unfold ofZ; omega
theorem head_slice (g n c : Nat) (h : n + 1 ≤ c) (W : World) : (Instr.slice 22 (.slice (some ⟨g, 0, none⟩) (n + 1) c) none (some (.int .i64 (n : Int))) none).run Try.prog W = .ok (.slice (some ⟨g, 0, none⟩) n c) W := by
  have h1 : (n : Int) ≤ (c : Int) := by omega
  go_simp

set_option maxRecDepth 100000 in
set_option maxHeartbeats 4000000 in
theorem exact_walk (a b : Int) (A : Option Addr) (c : Nat) (l : List Int) (hl : l.length * 8 ≤ 140737488351232) (w : World) (h : Rd w A (l.map (Value.int .i64))) :
    Calls Try.prog 3 #[.int .i64 a, .int .i64 b, .slice A l.length c] w fun e w' => e = .returned (.bool true) ∧ Below w.heap.size w w' := by
  obtain ⟨i1, hi, hz0, hz1, hz2⟩ := info_parts Try.infoI
  have KL := lives_any w
  go_enter Try.func3, Try.ntmps3
  go_wp2_with fail
  refine KL.mono ?_
  clear KL
  rintro e w1 ⟨rfl, hf1⟩
  have hle1 := hf1.size
  have o0 : (w1.alloc (.cells #[] 3)).ownsRow w.heap.size 3 1 (.slice (some ⟨w1.heap.size, 0, none⟩) 0 0) 0 [] := World.ownsRow_made w1 #[] 0 hle1 (by unfold maxLen; omega) (by simp)
  have f1 := hf1.alloc (.cells #[] 3)
  go_wp2_with (at_builtin; refine wpList_append_rd _ rfl (.tmp 10) (.tmp 11) 22 rfl w.heap.size 3 i1 (.int .i64 0) 8 Try.underlying22 hi hz0 hz1 hz2 rfl _ 0 [] rfl o0 A c l.length (l.map (Value.int .i64)) (by simp) rfl (h.fr f1 (fun _ _ => id)) (by intro u hu; obtain ⟨x, _, rfl⟩ := List.mem_map.1 hu; rfl) (by unfold maxLen; omega) (by omega) (by simp; omega) ?_)
  intro v1 w2 hown1 hg1
  have f2 := own_step f1 o0 hg1
  clear o0 f1 hg1 hf1
  have f2s := f2.size
  obtain ⟨A1, c1, rfl, _, _⟩ := own_form hown1
  go_wp2_with (at_builtin; refine wpList_append_rd _ rfl (.tmp 12) (.tmp 13) 22 rfl w.heap.size 3 i1 (.int .i64 0) 8 Try.underlying22 hi hz0 hz1 hz2 rfl _ l.length (l.map (Value.int .i64)) rfl (own_fr hown1 ((Fr.refl (fun _ => False) w2).alloc (.cells #[.int .i64 77] 3)) (fun _ _ => id)) _ 1 1 [.int .i64 77] rfl rfl (Rd.one w2 (.int .i64 77) 3) (by intro u hu; simp at hu; subst hu; rfl) (by unfold maxLen; omega) (by omega) (by simp; omega) ?_)
  intro v2 w3 hown2 hg2
  have f3 := own_step (f2.alloc (.cells #[.int .i64 77] 3)) (own_fr hown1 ((Fr.refl (fun _ => False) w2).alloc (.cells #[.int .i64 77] 3)) (fun _ _ => id)) hg2
  clear hown1 hg2 f2 f2s
  obtain ⟨A2, c2, rfl, hc2, hA2⟩ := own_form hown2
  obtain ⟨g2, rfl, hg2⟩ := hA2 (by omega)
  have K1 := of_any a
  have K2 := rof_any a
  have K3 := next_any a
  have K4 := rof_any (ofZ a + 1)
  rw [of_one'] at K4
  have K5 := gap_any a b
  have K6 := rgap_any a b
  have K7 := newer_any a b
  have b1 := of_bd a
  generalize ofZ (a + 1) = n at *
  generalize ofZ a = x at *
  generalize gapZ a b = g at *
  go_wp2_with fail
  refine (K1 _).mono ?_
  clear K1
  rintro e w4 ⟨rfl, rfl⟩
  go_wp2_with fail
  refine (K2 _).mono ?_
  rintro e w4 ⟨rfl, rfl⟩
  go_wp2_with fail
  refine (K3 _).mono ?_
  clear K3
  rintro e w4 ⟨rfl, rfl⟩
  go_wp2_with fail
  refine (K2 _).mono ?_
  clear K2
  rintro e w4 ⟨rfl, rfl⟩
  go_wp2_with fail
  refine (K4 _).mono ?_
  clear K4
  rintro e w4 ⟨rfl, rfl⟩
  go_wp2_with fail
  refine (K5 _).mono ?_
  clear K5
  rintro e w4 ⟨rfl, rfl⟩
  go_wp2_with fail
  refine (K6 _).mono ?_
  rintro e w4 ⟨rfl, rfl⟩
  go_wp2_with fail
  refine (K7 _).mono ?_
  clear K7
  rintro e w4 ⟨rfl, rfl⟩
  go_wp2_with fail
  refine (K6 _).mono ?_
  clear K6
  rintro e w4 ⟨rfl, rfl⟩
  have r2 := own_rd hown2
  have rp := Rd.pre r2
  have ra := h.fr f3 (fun _ _ => id)
  have L1 := lost_any (c := c2) rp (by omega) (by omega)
  have ce := r2.at0 l.length (.int .i64 77) (by rw [List.getElem?_append_right (by simp), List.length_map]; simp)
  generalize hLL : lostL l = LL at *
  clear hown2
  go_wp2_with fail
  refine L1.mono ?_
  clear L1
  rintro e w5 ⟨rfl, n5, rfl⟩
  have f45 : Fr (fun _ => False) w4 (w4.drewN n5) := (Fr.refl _ _).drewN n5
  have L2 := rlost_any (c := c) (ra.fr f45 (fun _ _ => id)) (by omega)
  rw [hLL] at L2
  go_wp2_with fail
  refine L2.mono ?_
  clear L2
  rintro e w6 ⟨rfl, rfl⟩
  have L3 := sameints_any (c := c2) (c' := c) (rp.fr f45 (fun _ _ => id)) (ra.fr f45 (fun _ _ => id)) (by omega)
  have f6 := f3.trans f45 (fun _ _ h => h)
  have ce6 : (w4.drewN n5).cell? ⟨g2, l.length, none⟩ = some (.int .i64 77) := ce
  have hg6 : g2 < (w4.drewN n5).heap.size := hg2
  generalize w4.drewN n5 = w6 at *
  clear f45 ce r2 rp ra f3
  go_wp2_with fail
  refine L3.mono ?_
  clear L3
  rintro e w7 ⟨rfl, f7⟩
  have ce7 := (f7.cell (p := ⟨g2, l.length, none⟩) hg6 id).trans ce6
  have f8 := f6.trans f7 (fun _ _ h => h)
  clear f6 f7 ce6 hg6
  go_wp2_with fail
  go_ret
  exact ⟨rfl, f8.toBelow0⟩
end Go.Proofs.Ytbmjbpehoohdlaa

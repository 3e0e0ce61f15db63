/- The walk of TopoWays: the ways through sections, and the positions that they ask for, are the document's, and go both ways round. -/
import Derived.Test.YtgommmaipifpaaaLives
import Derived.Test.YtgommmaipifpaaaRefw
namespace Go.Proofs.Ytgommmaipifpaaa
open Go.RowKit

set_option maxRecDepth 100000 in
set_option maxHeartbeats 8000000 in
theorem ways_walk (k i o p : Int) (w : World) : Calls Try.prog 4 #[.agg #[.int .i64 k, .int .i64 i, .int .i64 o], .int .i64 p] w fun x w' => x = .returned (.bool true) ∧ Below w.heap.size w w' := by
  have KL := fun w => lives_any w
  have K1 := fun w => way_any k i p w
  have K2 := fun w => rway_any k i p w
  have K3 := fun w => pos_any k i o w
  have K4 := fun w => rpos_any k i o w
  have K5 := fun w => ends_any k w
  have K6 := fun w => rends_any k w
  have K7 := fun w => way_any k (wayOut k i p) p w
  have K8 := fun w => pos_any k i (wayOut k i p) w
  have HB := Lib.hid (way_back k i p)
  have HP := Lib.hid (way_pos k i p)
  have HN := Lib.hid (pos_ne k i o)
  generalize wayOut k i p = a at *
  generalize posOut k i o = c at *
  generalize posOut k i a = pp at *
  generalize endsM k = n at *
  have is0 := Is.new w 37 #[.int .i64 k, .int .i64 i, .int .i64 o]
  have f0 := (Fr.refl (fun _ => False) w).alloc (.cells #[.int .i64 k, .int .i64 i, .int .i64 o] 37)
  go_enter Try.func4, Try.ntmps4
  go_wp2_with fail
  refine (KL _).mono ?_
  clear KL
  rintro x w1 ⟨rfl, f1⟩
  have is1 := is0.fr f1 id
  have g1 := fr_nil f0 f1
  have k0 := is1.cell 0
  have k1 := is1.cell 1
  have k2 := is1.cell 2
  clear is0 f0 f1 is1
  go_wp2_with fail
  go_quiet (fail)
  clear k0 k1 k2
  cases hok : wayOk k i p
  · rw [hok] at K1 K2
    cases hpk : posOk k i o
    · rw [hpk] at K3 K4
      clear hok hpk K7 K8
      go_wp2_with fail
      refine (K1 _).mono ?_
      clear K1
      rintro x w2 ⟨rfl, f2⟩
      go_wp2_with fail
      refine (K2 _).mono ?_
      clear K2
      rintro x w3 ⟨rfl, f3⟩
      go_wp2_with fail
      refine (K3 _).mono ?_
      clear K3
      rintro x w4 ⟨rfl, f4⟩
      go_wp2_with fail
      refine (K4 _).mono ?_
      clear K4
      rintro x w5 ⟨rfl, f5⟩
      go_wp2_with fail
      refine (K5 _).mono ?_
      clear K5
      rintro x w6 ⟨rfl, rfl⟩
      go_wp2_with fail
      refine (K6 _).mono ?_
      clear K6
      rintro x w6 ⟨rfl, f6⟩
      go_wp2_with fail
      go_ret
      exact ⟨rfl, (fr_nil (fr_nil (fr_nil (fr_nil (fr_nil (g1.drewN nq) f2) f3) f4) f5) f6).toBelow0⟩
    · rw [hpk] at K3 K4
      have e1 : (i != o) = true := by simpa using HN.out hpk
      clear hok hpk K7 K8
      go_wp2_with fail
      refine (K1 _).mono ?_
      clear K1
      rintro x w2 ⟨rfl, f2⟩
      go_wp2_with fail
      refine (K2 _).mono ?_
      clear K2
      rintro x w3 ⟨rfl, f3⟩
      go_wp2_with fail
      refine (K3 _).mono ?_
      clear K3
      rintro x w4 ⟨rfl, f4⟩
      go_wp2_with fail
      refine (K4 _).mono ?_
      clear K4
      rintro x w5 ⟨rfl, f5⟩
      go_wp2_with fail
      refine (K5 _).mono ?_
      clear K5
      rintro x w6 ⟨rfl, rfl⟩
      go_wp2_with fail
      refine (K6 _).mono ?_
      clear K6
      rintro x w6 ⟨rfl, f6⟩
      have g6 := fr_nil (fr_nil (fr_nil (fr_nil (fr_nil (g1.drewN nq) f2) f3) f4) f5) f6
      clear f2 f3 f4 f5 f6
      go_wp2_with fail
      go_ret
      exact ⟨rfl, g6.toBelow0⟩
  · obtain ⟨b1, b2, b3, _, _, _, _⟩ := HB.out hok
    obtain ⟨c1, c2⟩ := HP.out hok
    rw [hok] at K1 K2
    rw [b1, b2] at K7
    rw [c1] at K8
    have e3 : (a == i) = false := by simpa using b3
    clear b1 b2 b3 c1 hok
    by_cases h0 : pp = 0
    · subst h0
      clear c2
      cases hpk : posOk k i o
      · rw [hpk] at K3 K4
        clear hpk
        go_wp2_with fail
        refine (K1 _).mono ?_
        clear K1
        rintro x w2 ⟨rfl, f2⟩
        go_wp2_with fail
        refine (K2 _).mono ?_
        clear K2
        rintro x w3 ⟨rfl, f3⟩
        go_wp2_with fail
        refine (K3 _).mono ?_
        clear K3
        rintro x w4 ⟨rfl, f4⟩
        go_wp2_with fail
        refine (K4 _).mono ?_
        clear K4
        rintro x w5 ⟨rfl, f5⟩
        go_wp2_with fail
        refine (K5 _).mono ?_
        clear K5
        rintro x w6 ⟨rfl, rfl⟩
        go_wp2_with fail
        refine (K6 _).mono ?_
        clear K6
        rintro x w6 ⟨rfl, f6⟩
        have g6 := fr_nil (fr_nil (fr_nil (fr_nil (fr_nil (g1.drewN nq) f2) f3) f4) f5) f6
        clear f2 f3 f4 f5 f6
        go_wp2_with fail
        refine (K7 _).mono ?_
        clear K7
        rintro x w7 ⟨rfl, f7⟩
        go_wp2_with fail
        refine (K8 _).mono ?_
        clear K8
        rintro x w8 ⟨rfl, f8⟩
        have g8 := fr_nil (fr_nil g6 f7) f8
        go_wp2_with fail
        go_ret
        exact ⟨rfl, g8.toBelow0⟩
      · rw [hpk] at K3 K4
        have e1 : (i != o) = true := by simpa using HN.out hpk
        clear hpk
        go_wp2_with fail
        refine (K1 _).mono ?_
        clear K1
        rintro x w2 ⟨rfl, f2⟩
        go_wp2_with fail
        refine (K2 _).mono ?_
        clear K2
        rintro x w3 ⟨rfl, f3⟩
        go_wp2_with fail
        refine (K3 _).mono ?_
        clear K3
        rintro x w4 ⟨rfl, f4⟩
        go_wp2_with fail
        refine (K4 _).mono ?_
        clear K4
        rintro x w5 ⟨rfl, f5⟩
        go_wp2_with fail
        refine (K5 _).mono ?_
        clear K5
        rintro x w6 ⟨rfl, rfl⟩
        go_wp2_with fail
        refine (K6 _).mono ?_
        clear K6
        rintro x w6 ⟨rfl, f6⟩
        have g6 := fr_nil (fr_nil (fr_nil (fr_nil (fr_nil (g1.drewN nq) f2) f3) f4) f5) f6
        clear f2 f3 f4 f5 f6
        go_wp2_with fail
        refine (K7 _).mono ?_
        clear K7
        rintro x w7 ⟨rfl, f7⟩
        go_wp2_with fail
        refine (K8 _).mono ?_
        clear K8
        rintro x w8 ⟨rfl, f8⟩
        have g8 := fr_nil (fr_nil g6 f7) f8
        go_wp2_with fail
        go_ret
        exact ⟨rfl, g8.toBelow0⟩
    · have hpp : pp = p := by
        rcases c2 with h | h
        · exact absurd h h0
        · exact h
      subst hpp
      have e4 : (pp != 0) = true := by simpa using h0
      clear c2 h0
      cases hpk : posOk k i o
      · rw [hpk] at K3 K4
        clear hpk
        go_wp2_with fail
        refine (K1 _).mono ?_
        clear K1
        rintro x w2 ⟨rfl, f2⟩
        go_wp2_with fail
        refine (K2 _).mono ?_
        clear K2
        rintro x w3 ⟨rfl, f3⟩
        go_wp2_with fail
        refine (K3 _).mono ?_
        clear K3
        rintro x w4 ⟨rfl, f4⟩
        go_wp2_with fail
        refine (K4 _).mono ?_
        clear K4
        rintro x w5 ⟨rfl, f5⟩
        go_wp2_with fail
        refine (K5 _).mono ?_
        clear K5
        rintro x w6 ⟨rfl, rfl⟩
        go_wp2_with fail
        refine (K6 _).mono ?_
        clear K6
        rintro x w6 ⟨rfl, f6⟩
        have g6 := fr_nil (fr_nil (fr_nil (fr_nil (fr_nil (g1.drewN nq) f2) f3) f4) f5) f6
        clear f2 f3 f4 f5 f6
        go_wp2_with fail
        refine (K7 _).mono ?_
        clear K7
        rintro x w7 ⟨rfl, f7⟩
        go_wp2_with fail
        refine (K8 _).mono ?_
        clear K8
        rintro x w8 ⟨rfl, f8⟩
        have g8 := fr_nil (fr_nil g6 f7) f8
        go_wp2_with fail
        go_ret
        exact ⟨rfl, g8.toBelow0⟩
      · rw [hpk] at K3 K4
        have e1 : (i != o) = true := by simpa using HN.out hpk
        clear hpk
        go_wp2_with fail
        refine (K1 _).mono ?_
        clear K1
        rintro x w2 ⟨rfl, f2⟩
        go_wp2_with fail
        refine (K2 _).mono ?_
        clear K2
        rintro x w3 ⟨rfl, f3⟩
        go_wp2_with fail
        refine (K3 _).mono ?_
        clear K3
        rintro x w4 ⟨rfl, f4⟩
        go_wp2_with fail
        refine (K4 _).mono ?_
        clear K4
        rintro x w5 ⟨rfl, f5⟩
        go_wp2_with fail
        refine (K5 _).mono ?_
        clear K5
        rintro x w6 ⟨rfl, rfl⟩
        go_wp2_with fail
        refine (K6 _).mono ?_
        clear K6
        rintro x w6 ⟨rfl, f6⟩
        have g6 := fr_nil (fr_nil (fr_nil (fr_nil (fr_nil (g1.drewN nq) f2) f3) f4) f5) f6
        clear f2 f3 f4 f5 f6
        go_wp2_with fail
        refine (K7 _).mono ?_
        clear K7
        rintro x w7 ⟨rfl, f7⟩
        go_wp2_with fail
        refine (K8 _).mono ?_
        clear K8
        rintro x w8 ⟨rfl, f8⟩
        have g8 := fr_nil (fr_nil g6 f7) f8
        go_wp2_with fail
        go_ret
        exact ⟨rfl, g8.toBelow0⟩
end Go.Proofs.Ytgommmaipifpaaa

/- The walk of MoverTwice: the same command again changes nothing; another one makes the mover wait anew. -/
import Derived.Test.YtbjbkaphigolnaaMv
import Derived.Deep.CutRange
namespace Go.Proofs.Ytbjbkaphigolnaa.Mv
open Go.RowKit

theorem pv_no (c : Int) (n s k : Nat) (hk : 1 ≤ k) (hn : n < 1000000) (hs : s ≤ n + k) (hk2 : k ≤ 8) : pv c (n : Int) c (s : Int) true (k : Int) = false := by
  unfold pv
  rw [wz_in _ (by omega) (by omega), wz_in _ (by omega) (by omega), wz_in _ (by omega) (by omega), decide_eq_false (by omega)]
  simp
theorem pv_yes (c : Int) (n k : Nat) (hk : 1 ≤ k) (hn : n < 1000000) (hk2 : k ≤ 8) : pv c (n : Int) c ((n + k + 1 : Nat) : Int) true (k : Int) = (c != 0) := by
  unfold pv
  rw [wz_in _ (by omega) (by omega), wz_in _ (by omega) (by omega), wz_in _ (by omega) (by omega), decide_eq_true (by omega)]
  simp

set_option maxHeartbeats 4000000 in
theorem twice_walk (c o a cmd : Int) (w : World) :
    Calls Try.prog 6 #[.agg #[.int .i64 c, .int .i64 o], .int .i64 a, .int .i64 cmd] w fun e w' => e = .returned (.bool true) ∧ Below w.heap.size w w' := by
  have KL := lives_any
  obtain ⟨n, hn, hn6⟩ := umod a 1000000 (by decide) (by decide)
  simp only [show ((1000000 : Nat) : Int) = 1000000 from rfl] at hn
  have HN := Lib.hid hn
  clear hn
  have K1 := command_any c o n cmd
  have K2 := fun g x => command_any cmd g x cmd
  simp only [if_true] at K2
  have HG : ∃ g, (if c = cmd then o else (n : Int)) = g ∧ Hid ((c = cmd → g = o) ∧ (c ≠ cmd → g = n)) := ⟨_, rfl, Lib.hid ⟨fun e => if_pos e, fun e => if_neg e⟩⟩
  obtain ⟨g, hg, HG⟩ := HG
  rw [hg] at K1
  clear hg
  have f0 := (Fr.refl (fun _ => False) w).alloc (.cells #[.int .i64 c, .int .i64 o] 23)
  have i1 := Is.new w 23 #[.int .i64 c, .int .i64 o]
  go_enter Try.func6, Try.ntmps6
  go_wp2_with fail
  refine (KL _).mono ?_
  clear KL
  rintro e w1 ⟨rfl, f1⟩
  replace i1 := i1.fr f1 id
  replace f1 := f0.trans f1 (fun _ _ h => h)
  clear f0
  generalize hb1 : w.heap.size = b1 at *
  have hb1' := Lib.hid hb1
  clear hb1
  have c0 := i1.cell 0
  have c1 := i1.cell 1
  go_wp2_with fail
  simp only [HN.out]
  clear HN
  refine (K1 _).mono ?_
  clear K1 c0 c1
  rintro e w2 ⟨rfl, f2⟩
  replace i1 := i1.fr f2 id
  replace f2 := f1.trans f2 (fun _ _ h => h)
  clear f1
  have i2 := Is.new w2 23 #[.int .i64 cmd, .int .i64 g]
  replace i1 := i1.alloc (.cells #[.int .i64 cmd, .int .i64 g] 23)
  replace f2 := f2.alloc (.cells #[.int .i64 cmd, .int .i64 g] 23)
  go_upto_region 5 with fail
  generalize w2.alloc _ = w3 at *
  generalize hb2 : w2.heap.size = b2 at *
  clear hb2
  have x0 : ∀ u : Fro w3, u.w.cell? ⟨b2, 0, none⟩ = some (.int .i64 cmd) := cell_fro (i2.cell 0)
  have x1 : ∀ u : Fro w3, u.w.cell? ⟨b2, 1, none⟩ = some (.int .i64 g) := cell_fro (i2.cell 1)
  have q1 : wrap64 ((n : Int) + 1) = (n : Int) + 1 := IntWalk.wrap64_in _ ⟨by omega, by omega⟩
  refine region_fro (by kernel_rfl) (by kernel_rfl) ?_
  repeat (go_big_quiet_step ((go_at_call 9; with_reducible exact call_fro (K2 _ _ _))))
  refine wpQuiet_nil ?_
  rintro _ ⟨⟨w4, f4⟩, rfl⟩
  clear x0 x1 K2 q1
  replace i1 := i1.fr f4 id
  replace i2 := i2.fr f4 id
  replace f4 := f2.trans f4 (fun _ _ h => h)
  clear f2
  have c0 := i1.cell 0
  have c1 := i1.cell 1
  have x0 := i2.cell 0
  have x1 := i2.cell 1
  by_cases hc : c = cmd
  · have hg : g = o := HG.out.1 hc
    subst hc
    subst hg
    go_wp2_with fail
    go_ret
    exact ⟨rfl, f4.toBelow0⟩
  · have hg : g = (n : Int) := HG.out.2 hc
    subst hg
    have hcb : (c == cmd) = false := by simpa using hc
    clear HG hc i1
    go_wp2_with fail
    clear c0 c1 x0 x1
    have HB := Lib.hid hn6
    go_loopw [8] (fun i wr => ∃ k : Nat, 1 ≤ k ∧ k ≤ 9 ∧ i = .int .i64 (k : Nat) ∧ Fr (fun _ => False) w wr ∧ Is wr b2 23 #[.int .i64 cmd, .int .i64 (n : Int)]) (fun i _ => 9 - (intOf i).toNat)
    case atStart => exact ⟨1, by omega, by omega, rfl, f4, i2⟩
    case round =>
      clear f4 i2
      obtain ⟨k, hk1, hk9, rfl, f4, i2⟩ := hrel
      by_cases hk : k ≤ 8
      · have q1 : wrap64 ((n : Int) + (k : Int)) = ((n + k : Nat) : Int) := by rw [IntWalk.wrap64_in _ ⟨by omega, by omega⟩]; omega
        have dk : decide ((k : Int) ≤ 8) = true := decide_eq_true (by omega)
        have i3 := Is.new wr 3 #[.int .i64 0, .int .i64 (n : Int), .int .i64 ((n + k : Nat) : Int)]
        replace i2 := i2.alloc (.cells #[.int .i64 0, .int .i64 (n : Int), .int .i64 ((n + k : Nat) : Int)] 3)
        replace f4 := f4.alloc (.cells #[.int .i64 0, .int .i64 (n : Int), .int .i64 ((n + k : Nat) : Int)] 3)
        simp only [show ((n + k : Nat) : Int) = (n : Int) + (k : Int) by omega] at q1 i3 i2 f4
        go_wp2_with fail
        generalize wr.alloc _ = w5 at *
        generalize hgg : wr.heap.size = gg at *
        clear hgg q1
        go_loopw [59] (fun i wr => ∃ j : Nat, j ≤ 3 ∧ i = .int .i64 (j : Nat) ∧ Fr (fun _ => False) w wr ∧ Is wr b2 23 #[.int .i64 cmd, .int .i64 (n : Int)] ∧ Is wr gg 3 #[.int .i64 0, .int .i64 (n : Int), .int .i64 ((n : Int) + (k : Int))]) (fun i _ => 3 - (intOf i).toNat)
        case atStart => exact ⟨0, by omega, rfl, f4, i2, i3⟩
        case round =>
          clear f4 i2 i3
          obtain ⟨j, hj, rfl, f4, i2, i3⟩ := hrel
          by_cases hj3 : j < 3
          · have hs : ∃ s : Nat, s ≤ n + k ∧ wr.cell? ⟨gg, j, none⟩ = some (.int .i64 (s : Int)) := by
              match j, hj3 with
              | 0, _ => exact ⟨0, by omega, i3.cell 0⟩
              | 1, _ => exact ⟨n, by omega, i3.cell 1⟩
              | 2, _ => exact ⟨n + k, by omega, by rw [i3.cell 2]; simp⟩
            obtain ⟨s, hs, cs⟩ := hs
            have K := proven_any cmd n cmd s true k
            rw [pv_no cmd n s k hk1 HB.out hs hk] at K
            have x0 := i2.cell 0
            have x1 := i2.cell 1
            go_wp2_with fail
            refine (K _).mono ?_
            rintro e w6 ⟨rfl, f6⟩
            clear K cs x0 x1
            have HF6 := Lib.hid (f4.trans f6 (fun _ _ h => h))
            have HI2 := Lib.hid (i2.fr f6 id)
            have HI3 := Lib.hid (i3.fr f6 id)
            clear f4 f6 i2 i3
            go_wp2_with fail
            go_roundw
            case rel => exact ⟨j + 1, by omega, by go_num, HF6.out, HI2.out, HI3.out⟩
            case measure => simp [intOf]; omega
          · have x0 := i2.cell 0
            have x1 := i2.cell 1
            have K := proven_any cmd n cmd ((n + k + 1 : Nat) : Int) true k
            rw [pv_yes cmd n k hk1 HB.out hk, show ((n + k + 1 : Nat) : Int) = (n : Int) + (k : Int) + 1 by omega] at K
            go_wp2_with fail
            by_cases h0 : cmd = 0
            · subst h0
              refine (K _).mono ?_
              rintro e w6 ⟨rfl, f6⟩
              have HF6 := Lib.hid (f4.trans f6 (fun _ _ h => h))
              have HI2 := Lib.hid (i2.fr f6 id)
              clear K x0 x1 f4 f6 i2 i3
              go_wp2_with fail
              go_roundw
              case rel => exact ⟨k + 1, by omega, by omega, by go_num, HF6.out, HI2.out⟩
              case measure => simp [intOf]; omega
            · have d0 : (cmd == 0) = false := by simpa using h0
              have d0' : (cmd != 0) = true := by simpa using h0
              rw [d0'] at K
              refine (K _).mono ?_
              rintro e w6 ⟨rfl, f6⟩
              have HF6 := Lib.hid (f4.trans f6 (fun _ _ h => h))
              have HI2 := Lib.hid (i2.fr f6 id)
              clear K x0 x1 f4 f6 i2 i3 h0
              go_wp2_with fail
              go_roundw
              case rel => exact ⟨k + 1, by omega, by omega, by go_num, HF6.out, HI2.out⟩
              case measure => simp [intOf]; omega
      · go_wp2_with fail
        go_ret
        exact ⟨rfl, f4.toBelow0⟩
end Go.Proofs.Ytbjbkaphigolnaa.Mv

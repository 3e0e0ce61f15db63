/- The walk of SeqRound: going on from any number one comes through all of them, each once, and back to it. -/
import Derived.Test.YtbmjbpehoohdlaaGaps
import Derived.Deep.OwnRows
namespace Go.Proofs.Ytbmjbpehoohdlaa
open Go.RowKit

theorem Try.infoBool : (Try.prog.info? 4).map (fun i => (i.zero, i.size, i.bytes)) = some (some (.bool false), 1, 1) := by kernel_rfl
/-- was this number come through among the first k from a on? -/
def seenV (a : Int) (k m : Nat) : Value := .bool (decide (((m : Int) - a) % 65536 < (k : Int)))
theorem seen_not (a : Int) (k : Nat) (h : k < 65536) (m : Nat) (hm : (m : Int) = ofZ (a + (k : Int))) : seenV a k m = .bool false := by
  unfold seenV ofZ at *
  rw [decide_eq_false]
  omega
theorem seen_step (a : Int) (k : Nat) (h : k < 65536) (m : Nat) (hm : (m : Int) = ofZ (a + (k : Int))) (j : Nat) (hj : j < 65536) : (if j = m then Value.bool true else seenV a k j) = seenV a (k + 1) j := by
  unfold seenV ofZ at *
  split
  · subst j
    rw [decide_eq_true]
    omega
  · congr 1
    rw [decide_eq_decide]
    omega
theorem of_back (a : Int) : ofZ (a + 65536) = ofZ a := by unfold ofZ; omega
theorem of_one (a : Int) (k : Nat) : ofZ (ofZ (a + (k : Int)) + 1) = ofZ (a + ((k + 1 : Nat) : Int)) := by unfold ofZ; omega

set_option maxRecDepth 100000 in
set_option maxHeartbeats 800000 in
theorem round_walk (a : Int) (w : World) :
    Calls Try.prog 6 #[.int .i64 a] w fun e w' => e = .returned (.bool true) ∧ Below w.heap.size w w' := by
  have KL := lives_any w
  have K1 := of_any a
  obtain ⟨N, hN, hmk⟩ : ∃ N : Nat, (N : Int) = 65536 ∧ ∀ w : World, (Instr.makeSlice 34 (.int .i64 65536) (.int .i64 65536)).run Try.prog w = .ok (.slice (some ⟨w.heap.size, 0, none⟩) N N) (w.alloc (.cells (madeCells #[.bool false] N) 4)) := by
    refine ⟨65536, rfl, fun w => ?_⟩
    exact run_make_row' (P := Try.prog) 34 4 (.bool false) 1 Try.underlying34 Try.infoBool rfl .i64 .i64 65536 (by decide) (by decide) w
  go_enter Try.func6, Try.ntmps6
  go_wp2_with fail
  refine KL.mono ?_
  clear KL
  rintro e w1 ⟨rfl, hf1⟩
  have hR := World.rowIs_made w1 (.bool false) N 4
  have hf2 := hf1.alloc (.cells (madeCells #[.bool false] N) 4)
  have hle := hf1.size
  generalize hg : w1.heap.size = g at *
  generalize hw2 : w1.alloc (.cells (madeCells #[.bool false] N) 4) = w2 at *
  go_wp2_with fail
  refine (K1 _).mono ?_
  rintro e w3 ⟨rfl, rfl⟩
  go_wp2_with fail
  have hs0 : ∀ i, i < N → Value.bool false = seenV a 0 i := fun i hi => by
    unfold seenV
    rw [decide_eq_false]
    omega
  go_loopw [4, 5] (fun n i wr => ∃ k m, k ≤ 65536 ∧ i = .int .i64 (k : Nat) ∧ m < 65536 ∧ ((m : Nat) : Int) = ofZ (a + (k : Int)) ∧ n = .int .i64 (m : Nat) ∧ Fr (fun _ => False) w wr ∧ wr.rowIs g 4 N (seenV a k)) (fun _ i _ => N - (intOf i).toNat)
  case atStart =>
    have hb := of_bd a
    refine ⟨0, (ofZ a).toNat, Nat.zero_le _, rfl, by omega, ?_, ?_, hf2, hR.congr hs0⟩
    · rw [show a + ((0 : Nat) : Int) = a from by omega]; omega
    · exact congrArg (Value.int .i64) (by omega)
  case round =>
    clear hw2 hf1 hg hf2 hR hs0
    clear hmk
    obtain ⟨k, m, hk, rfl, hm, hmk, rfl, f1, hR⟩ := hrel
    by_cases hlt : k < 65536
    · have c1 := hR.cell (i := m) (by omega)
      rw [seen_not a k hlt m hmk] at c1
      have z1 := hR.frozen m
      have hR2 := (hR.set m (.bool true)).congr (fun j hj => seen_step a k hlt m hmk j (by omega))
      have f2 := f1.setCell (p := ⟨g, m, none⟩) (.inr hle) (.bool true)
      have N1 := next_any (m : Int)
      have e1 : ofZ ((m : Int) + 1) = ofZ (a + ((k + 1 : Nat) : Int)) := by rw [hmk, of_one]
      have hb := of_bd (a + ((k + 1 : Nat) : Int))
      rw [e1] at N1
      have hb2 := Lib.hid hb
      have hx : ∃ y : Nat, ofZ (a + ((k + 1 : Nat) : Int)) = (y : Int) ∧ y < 65536 := ⟨(ofZ (a + ((k + 1 : Nat) : Int))).toNat, by omega, by omega⟩
      obtain ⟨y, hy, hy2⟩ := hx
      rw [hy] at N1
      have HY := Lib.hid hy
      have q0 : (m : Int) < (N : Int) := by omega
      have q1 : (m : Int) ≤ 65535 := by omega
      have q2 : (k : Int) < 65536 := by omega
      have HA := Lib.hid hm
      have HB := Lib.hid hlt
      have HC := Lib.hid hy2
      have d1 : decide ((m : Int) < 0) = false := by simp
      have d2 : decide (65535 < (m : Int)) = false := decide_eq_false (by omega)
      clear e1 hb hb2 hy hmk K1 hm hlt hy2 hk
      go_wp2_with fail
      refine (N1 _).mono ?_
      clear N1
      rintro e w4 ⟨rfl, rfl⟩
      go_wp2
      go_roundw
      case rel => exact ⟨k + 1, y, by omega, by go_num, HC.out, HY.out.symm, rfl, f2, hR2⟩
      case measure => simp [intOf]; omega
    · have hk' : k = 65536 := by omega
      have e1 : (m : Int) = ofZ a := by rw [hmk, ← of_back a]; congr 1; omega
      rw [← e1] at K1
      clear hR e1 hmk
      go_wp2_with fail
      refine (K1 _).mono ?_
      clear K1
      rintro e w4 ⟨rfl, rfl⟩
      go_wp2
      go_ret
      exact ⟨rfl, f1.toBelow0⟩
end Go.Proofs.Ytbmjbpehoohdlaa

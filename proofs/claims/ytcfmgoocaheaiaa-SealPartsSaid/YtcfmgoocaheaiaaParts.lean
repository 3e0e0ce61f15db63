/- The walk of SealParts: the sum and the frame of parts are those of the parts put together, wherever they are cut. -/
import Derived.Test.YtcfmgoocaheaiaaCut
import Derived.Deep.RegionHeld3
namespace Go.Proofs.Ytcfmgoocaheaiaa
open Go.RowKit Crc

theorem jn_three (s : ByteArray) (i d : Nat) : jn [s.extract 0 i, s.extract i (i + d), s.extract (i + d) s.size] = bytesOf s := by
  unfold jn
  simp only [List.map, List.flatten_cons, List.flatten_nil, List.append_nil]
  rw [bytesOf_extract, bytesOf_extract, bytesOf_extract, List.drop_zero, size_of, List.take_length]
  have e : (bytesOf s).take i = ((bytesOf s).take (i + d)).take i := by rw [List.take_take, Nat.min_eq_left (by omega)]
  rw [e, ← List.append_assoc, List.take_append_drop, List.take_append_drop]
theorem piece_end (s : ByteArray) (a m : Nat) (h : a + m ≤ s.size) (W : World) : (Instr.slice 9 (.string s) (some (.int .i64 ((a : Int) + (m : Int)))) none none).run Try.prog W = .ok (.string (s.extract (a + m) s.size)) W := by
  have h0 : 0 ≤ (a : Int) + (m : Int) := by omega
  have h1 : (a : Int) + (m : Int) ≤ (s.size : Int) := by omega
  have k := run_slice_string_l (P := Try.prog) (w := W) 9 s Try.underlying9 .i64 ((a : Int) + (m : Int)) h0 h1
  rw [k, show ((a : Int) + (m : Int)).toNat = a + m from by omega]

set_option maxRecDepth 100000 in
set_option maxHeartbeats 1600000 in
theorem parts_walk (text : ByteArray) (a b : Int) (hb : text.size ≤ 140737488351232) (w : World) :
    Calls Try.prog 8 #[.string text, .int .i64 a, .int .i64 b] w fun e w' => e = .returned (.bool true) ∧ Below w.heap.size w w' := by
  have KL := lives_any w
  have K1 := seal_one text (by omega)
  obtain ⟨i, hi, hil⟩ := umod a (text.size + 1) (by omega) (by omega)
  rw [show ((text.size + 1 : Nat) : Int) = (text.size : Int) + 1 from by omega] at hi
  obtain ⟨d, hd, hdl⟩ := umod b (text.size - i + 1) (by omega) (by omega)
  rw [show ((text.size - i + 1 : Nat) : Int) = (text.size : Int) - (i : Int) + 1 from by omega] at hd
  have hid : i + d ≤ text.size := by omega
  have hj := jn_three text i d
  have p0 := piece_head text i (by omega)
  have p1 := piece text i d hid
  have p2 := piece_end text i d hid
  have K2 := fun (W : World) (A : Option Addr) (h : Rd W A ([text.extract 0 i, text.extract i (i + d), text.extract (i + d) text.size].map Value.string)) => seal_any (c := 3) h (by simp) (by simp) (by rw [hj, bytesOf_length]; omega)
  rw [hj] at K2
  have D2 := fun (W : World) => K2 (W.alloc (.cells #[.string (text.extract 0 i), .string (text.extract i (i + d)), .string (text.extract (i + d) text.size)] 9)).drew (some ⟨W.heap.size, 0, none⟩) (lits_rd W [text.extract 0 i, text.extract i (i + d), text.extract (i + d) text.size])
  clear K2
  have K3 := fun (W : World) (A : Option Addr) (h : Rd W A ([text].map Value.string)) => sum_any (c := 1) h (by simp) (by intro x hx; simp at hx; subst hx; omega)
  have K4 := fun (W : World) (A : Option Addr) (h : Rd W A ([text.extract 0 i, text.extract i (i + d), text.extract (i + d) text.size].map Value.string)) => sum_any (c := 3) h (by simp) (by intro x hx; simp at hx; rcases hx with rfl | rfl | rfl <;> (rw [ByteArray.size_extract]; omega))
  rw [hj] at K4
  rw [jn_one] at K3
  generalize frameL (bytesOf text) = F at *
  obtain ⟨f, e⟩ := F
  simp only at K1 D2
  generalize (⟨f.toArray⟩ : ByteArray) = F at *
  generalize ((sum (bytesOf text)).toNat : Int) = S at *
  clear hj
  go_enter Try.func8, Try.ntmps8
  go_wp2_with (go_at_call 10; refine KL.mono ?_; clear KL; rintro e w1 ⟨rfl, hf1⟩)
  go_wp2_with (go_at_call 11; refine (K1 w1).mono ?_; rintro e w2 ⟨rfl, hf2⟩)
  clear hi hd K1
  go_region_held3 (fun _ => True) (first | exact trivial) (first | (go_at_call 11; refine (D2 w2).mono ?_; clear D2; rintro e w3 ⟨rfl, hf3⟩))
  go_wp2_with fail
  have hf4 := (((hf1.trans hf2 (fun _ _ h => h)).alloc (.cells #[.string (text.extract 0 i), .string (text.extract i (i + d)), .string (text.extract (i + d) text.size)] 9)).drew).trans hf3 (fun _ _ h => h)
  clear hf1 hf2 hf3
  have q1 : (F.toList == F.toList) = true := beq_self_eq_true _
  have q2 : (e == e) = true := beq_self_eq_true _
  have q3 : (S == S) = true := beq_self_eq_true _
  go_region_held3 (fun _ => True) (first | exact trivial) (first | (go_at_call 13; refine (K3 _ _ (rd_is (by first | exact Is.new _ _ _ | exact (Is.new _ _ _).alloc _ | exact is_two _ _ _ _))).mono ?_; clear K3; rintro e w4 ⟨rfl, rfl⟩) | (go_at_call 13; refine (K4 _ _ (rd_is (by first | exact Is.new _ _ _ | exact (Is.new _ _ _).alloc _ | exact is_two _ _ _ _))).mono ?_; clear K4; rintro e w4 ⟨rfl, rfl⟩))
  all_goals
    go_wp2
    go_ret
    exact ⟨rfl, (((hf4.alloc _).alloc _).drew).toBelow0⟩
end Go.Proofs.Ytcfmgoocaheaiaa

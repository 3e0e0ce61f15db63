/- The contract of link.Make: a telegram. -/
import Derived.Test.YtcencpkoimahbaaTeleg
import Derived.Test.YtcencpkoimahbaaPtext
import Derived.Test.YtcencpkoimahbaaScut
namespace Go.Proofs.Ytcencpkoimahbaa
open Go.RowKit Li

theorem two_rd (w : World) (x y : Value) (t : TypeId) : Rd (w.alloc (.cells #[x, y] t)) (some ⟨w.heap.size, 0, none⟩) [x, y] := fun _ =>
  ⟨w.heap.size, 0, rfl, (Is.new w t #[x, y]).lt, fun j u hu => by
    rw [Nat.zero_add, (Is.new w t #[x, y]).cell]
    show ([x, y].toArray)[j]? = _
    rw [List.getElem?_toArray]
    exact hu⟩
theorem one_rd (w : World) (x : Value) (t : TypeId) : Rd (w.alloc (.cells #[x] t)) (some ⟨w.heap.size, 0, none⟩) [x] := Rd.one w x t
/-- the writer's next number, of a list that is laid just now -/
theorem wr_next {w : World} {b : Nat} {F : Option Nat} {s : Pk.S} (h : Pa.Wr w b F s) (n : Int) :
    Pa.Wr (w.alloc (.cells #[.int .i64 n] 3)) b F s ∧ Rd (w.alloc (.cells #[.int .i64 n] 3)) (some ⟨w.heap.size, 0, none⟩) ([n].map (Value.int .i64)) ∧ blk (some ⟨w.heap.size, 0, none⟩) ≠ some b ∧ (∀ k, F = some k → blk (some ⟨w.heap.size, 0, none⟩) ≠ some k) := by
  refine ⟨h.fr ((Fr.refl (fun _ => False) w).alloc _) id fun _ _ => id, one_rd w _ _, ?_, ?_⟩
  · intro e
    have hl := h.lt
    have e' : w.heap.size = b := by injection e
    omega
  · intro k hk e
    have hl := h.ltF k hk
    have e' : w.heap.size = k := by injection e
    omega

set_option maxHeartbeats 1000000 in
theorem make_any (p n s : Int) (x : ByteArray) (w : World) :
    Calls Try.prog 11 #[.int .i64 p, .int .i64 n, .int .i64 s, .string x] w fun e w' => e = .returned (.tuple #[.string ⟨(makeL p n s (bytesOf x)).1.toArray⟩, .int .i64 (makeL p n s (bytesOf x)).2]) ∧ Fr (fun _ => False) w w' := by
  have K1 := Pa.new_any 7 w
  have W1 := Pa.new_wr 7 w (by decide)
  rw [show max (7 : Int) 0 = 7 from rfl] at K1 W1
  obtain ⟨b, hb⟩ : ∃ b, b = w.heap.size := ⟨_, rfl⟩
  rw [← hb] at K1 W1
  have HB : Hid (w.heap.size ≤ b) := Lib.hid (by omega)
  clear hb
  have HN := Lib.hid (nums_head p n s)
  have hxl := bytesOf_length x
  have HM1 : Hid (fitsB p n s = true → 1000 < (bytesOf x).length → makeL p n s (bytesOf x) = ([], 2)) := Lib.hid fun h k => by unfold makeL; rw [if_pos h, if_pos k]
  have HM2 : Hid (fitsB p n s = true → ¬ 1000 < (bytesOf x).length → makeL p n s (bytesOf x) = (Crc.frame (headB p n s ++ bytesOf x), 0)) := Lib.hid fun h k => by unfold makeL; rw [if_pos h, if_neg k]
  have HM3 : Hid (¬ fitsB p n s = true → makeL p n s (bytesOf x) = ([], 32)) := Lib.hid fun h => by unfold makeL; rw [if_neg h]
  go_enter Try.func11, Try.ntmps11
  go_wp2_with fail
  refine K1.mono ?_
  rintro e w1 ⟨rfl, hw1⟩
  have f1 : Fr (fun _ => False) w w1 := by rw [hw1]; exact (Fr.refl _ w).alloc _
  rw [← hw1] at W1
  obtain ⟨W2, r2, b2, c2⟩ := wr_next W1 p
  have KB := Pa.byte_any W2 _ 1 [p] r2 b2 c2 (by simp) (.inl (by show (7 : Int) ≤ _; decide))
  have HF1 := Lib.hid (f1.alloc (.cells #[.int .i64 p] 3))
  clear W1 W2 r2 b2 c2 f1 hw1 K1
  go_wp2_with fail
  refine KB.mono ?_
  rintro e w2 ⟨rfl, F2, W2, M2⟩
  have f2 := HF1.out.trans M2.1 fun j hj h => by
    rcases h with rfl | h
    · have := HB.out; omega
    · cases h
  obtain ⟨W3, r3, b3, c3⟩ := wr_next W2 n
  have hF2 : Hid (∀ k, F2 = some k → w.heap.size ≤ k) := Lib.hid fun k hk => by
    rcases M2.2 with e | ⟨g, e, hg⟩
    · rw [e] at hk; cases hk
    · rw [e] at hk; injection hk with hk; have := HF1.out.size; omega
  have KW := Pa.word_any W3 _ 1 [n] r3 b3 c3 (by simp) (.inl (by rw [Pk.S.nums_L]; show (7 : Int) ≤ _; decide))
  have HF2 := Lib.hid (f2.alloc (.cells #[.int .i64 n] 3))
  clear W2 W3 r3 b3 c3 f2 M2 KB HF1
  go_wp2_with fail
  refine KW.mono ?_
  rintro e w3 ⟨rfl, F3, W3, M3⟩
  have f3 := HF2.out.trans M3.1 fun j hj h => by
    rcases h with rfl | h
    · have := HB.out; omega
    · have := hF2.out j h; omega
  obtain ⟨W4, r4, b4, c4⟩ := wr_next W3 s
  have hF3 : Hid (∀ k, F3 = some k → w.heap.size ≤ k) := Lib.hid fun k hk => by
    rcases M3.2 with e | ⟨g, e, hg⟩
    · rw [e] at hk; exact hF2.out k hk
    · rw [e] at hk; injection hk with hk; have := HF2.out.size; omega
  have KL := Pa.long_any W4 _ 1 [s] r4 b4 c4 (by simp) (.inl (by rw [Pk.S.nums_L, Pk.S.nums_L]; show (7 : Int) ≤ _; decide))
  have HF3 := Lib.hid (f3.alloc (.cells #[.int .i64 s] 3))
  clear W3 W4 r4 b4 c4 f3 M3 KW HF2 hF2
  go_wp2_with fail
  refine KL.mono ?_
  rintro e w4 ⟨rfl, F4, W4, M4⟩
  have f4 := HF3.out.trans M4.1 fun j hj h => by
    rcases h with rfl | h
    · have := HB.out; omega
    · have := hF3.out j h; omega
  have KD := Pa.done_any W4
  rw [show ((((⟨7, [], 0⟩ : Pk.S).nums 1 [p]).nums 2 [n]).nums 4 [s]) = ((((⟨7, [], 0⟩ : Pk.S).num 1 p).num 2 n).num 4 s) from rfl, HN.out] at KD
  have HF4 := Lib.hid f4
  clear W4 f4 M4 KL HF3 hF3
  by_cases hf : fitsB p n s = true
  · rw [if_pos hf] at KD
    by_cases hx : 1000 < (bytesOf x).length
    · have HE := Lib.hid (HM1.out hf hx)
      have hx' : 1000 < x.size := by omega
      clear hx hxl hf HM1 HM2 HM3
      go_wp2_with fail
      refine KD.mono ?_
      rintro e w5 ⟨rfl, n5, rfl⟩
      have HF5 := Lib.hid (HF4.out.drewN n5)
      clear KD
      generalize w4.drewN n5 = W5 at *
      go_wp2_with fail
      go_ret2
      rw [HE.out]
      exact ⟨rfl, HF5.out⟩
    · have HE := Lib.hid (HM2.out hf hx)
      have hx' : x.size ≤ 1000 := by omega
      have hz : (⟨(headB p n s).toArray⟩ : ByteArray).size = 7 := head_length p n s
      have hbo : bytesOf ⟨(headB p n s).toArray⟩ = headB p n s := rfl
      clear hx hxl hf HM1 HM2 HM3
      generalize (⟨(headB p n s).toArray⟩ : ByteArray) = hd at *
      go_wp2_with fail
      refine KD.mono ?_
      rintro e w5 ⟨rfl, n5, rfl⟩
      have HF5 := Lib.hid (HF4.out.drewN n5)
      clear KD
      generalize w4.drewN n5 = W5 at *
      have hj : Se.jn [hd, x] = headB p n s ++ bytesOf x := by
        show bytesOf hd ++ (bytesOf x ++ []) = _
        rw [List.append_nil, hbo]
      have hjl : (Se.jn [hd, x]).length ≤ 1007 := by
        rw [hj, List.length_append, head_length, bytesOf_length]; omega
      have KS := Se.seal_any (c := 2) (xs := [hd, x]) (two_rd W5 (.string hd) (.string x) 9) (by simp) (by simp) (by omega)
      have hfr : Se.frameL (Se.jn [hd, x]) = (Crc.frame (headB p n s ++ bytesOf x), 0) := by
        unfold Se.frameL
        rw [if_neg (by omega), hj]
      rw [hfr] at KS
      have HF6 := Lib.hid (HF5.out.alloc (.cells #[.string hd, .string x] 9))
      clear hfr hj hjl HF5 HF4
      go_wp2_with fail
      refine KS.mono ?_
      rintro e w6 ⟨rfl, F6⟩
      have HF7 := Lib.hid (HF6.out.trans F6 fun _ _ h => h)
      clear F6 KS HF6
      go_wp2_with fail
      go_ret2
      rw [HE.out]
      exact ⟨rfl, HF7.out⟩
  · rw [if_neg hf] at KD
    have HE := Lib.hid (HM3.out hf)
    clear hf HM1 HM2 HM3
    go_wp2_with fail
    refine KD.mono ?_
    rintro e w5 ⟨rfl, n5, rfl⟩
    have HF5 := Lib.hid (HF4.out.drewN n5)
    clear KD
    generalize w4.drewN n5 = W5 at *
    go_wp2_with fail
    go_ret2
    rw [HE.out]
    exact ⟨rfl, HF5.out⟩
end Go.Proofs.Ytcencpkoimahbaa

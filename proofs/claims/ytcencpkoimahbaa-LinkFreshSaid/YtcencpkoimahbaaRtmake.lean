/- The contract of the document's own Make (package ballastref09). -/
import Derived.Test.YtcencpkoimahbaaTread
import Derived.Test.YtcencpkoimahbaaPmread
import Derived.Test.YtcencpkoimahbaaSrefn
namespace Go.Proofs.Ytcencpkoimahbaa
open Go.RowKit Li

set_option maxHeartbeats 1000000 in
theorem rmake_any (p n s : Int) (x : ByteArray) (w : World) :
    Calls Try.prog 12 #[.int .i64 p, .int .i64 n, .int .i64 s, .string x] w fun e w' => e = .returned (.tuple #[.string ⟨(makeL p n s (bytesOf x)).1.toArray⟩, .int .i64 (makeL p n s (bytesOf x)).2]) ∧ Fr (fun _ => False) w w' := by
  have K1 := Pa.mnew_calls 7 w (by decide)
  rw [show max (7 : Int) 0 = 7 from rfl] at K1
  obtain ⟨b, hb⟩ : ∃ b, b = w.heap.size := ⟨_, rfl⟩
  rw [← hb] at K1
  have HB : Hid (w.heap.size ≤ b) := Lib.hid (by omega)
  clear hb
  have HN := Lib.hid (nums_head p n s)
  have hxl := bytesOf_length x
  have HM1 : Hid (fitsB p n s = true → 1000 < (bytesOf x).length → makeL p n s (bytesOf x) = ([], 2)) := Lib.hid fun h k => by unfold makeL; rw [if_pos h, if_pos k]
  have HM2 : Hid (fitsB p n s = true → ¬ 1000 < (bytesOf x).length → makeL p n s (bytesOf x) = (Crc.frame (headB p n s ++ bytesOf x), 0)) := Lib.hid fun h k => by unfold makeL; rw [if_pos h, if_neg k]
  have HM3 : Hid (¬ fitsB p n s = true → makeL p n s (bytesOf x) = ([], 32)) := Lib.hid fun h => by unfold makeL; rw [if_neg h]
  go_enter Try.func12, Try.ntmps12
  go_wp2_with fail
  refine K1.mono ?_
  rintro e w1 ⟨rfl, W1, f1⟩
  have KB := Pa.mnum1 W1 p (.inl (by show (7 : Int) ≤ _; decide))
  have HF1 := Lib.hid f1
  clear W1 f1 K1
  go_wp2_with fail
  refine KB.mono ?_
  rintro e w2 ⟨rfl, F2, W2, M2⟩
  have f2 := HF1.out.trans M2.1 fun j hj h => by
    rcases h with rfl | h
    · have := HB.out; omega
    · cases h
  have hF2 : Hid (∀ k, F2 = some k → w.heap.size ≤ k) := Lib.hid fun k hk => by
    rcases M2.2 with e | ⟨g, e, hg⟩
    · rw [e] at hk; cases hk
    · rw [e] at hk; injection hk with hk; have := HF1.out.size; omega
  have KW := Pa.mnum2 W2 n (.inl (by rw [Pk.S.num_L]; show (7 : Int) ≤ _; decide))
  have HF2 := Lib.hid f2
  clear W2 f2 M2 KB HF1
  go_wp2_with fail
  refine KW.mono ?_
  rintro e w3 ⟨rfl, F3, W3, M3⟩
  have f3 := HF2.out.trans M3.1 fun j hj h => by
    rcases h with rfl | h
    · have := HB.out; omega
    · have := hF2.out j h; omega
  have hF3 : Hid (∀ k, F3 = some k → w.heap.size ≤ k) := Lib.hid fun k hk => by
    rcases M3.2 with e | ⟨g, e, hg⟩
    · rw [e] at hk; exact hF2.out k hk
    · rw [e] at hk; injection hk with hk; have := HF2.out.size; omega
  have KL := Pa.mnum4 W3 s (.inl (by rw [Pk.S.num_L, Pk.S.num_L]; show (7 : Int) ≤ _; decide))
  have HF3 := Lib.hid f3
  clear W3 f3 M3 KW HF2 hF2
  go_wp2_with fail
  refine KL.mono ?_
  rintro e w4 ⟨rfl, F4, W4, M4⟩
  have f4 := HF3.out.trans M4.1 fun j hj h => by
    rcases h with rfl | h
    · have := HB.out; omega
    · have := hF3.out j h; omega
  have KD := Pa.mdone_any W4
  rw [HN.out] at KD
  have HF4 := Lib.hid f4
  clear W4 f4 M4 KL HF3 hF3
  by_cases hf : fitsB p n s = true
  · rw [if_pos hf] at KD
    by_cases hx : 1000 < (bytesOf x).length
    · have HE := Lib.hid (HM1.out hf hx)
      have hx' : 1000 < x.size := by omega
      clear hx hxl hf HM1 HM2 HM3
      go_wp2_with fail
      refine KD.mono ?_
      rintro e w5 ⟨rfl, n5, rfl⟩
      have HF5 := Lib.hid (HF4.out.drewN n5)
      clear KD
      generalize w4.drewN n5 = W5 at *
      go_wp2_with fail
      go_ret2
      rw [HE.out]
      exact ⟨rfl, HF5.out⟩
    · have HE := Lib.hid (HM2.out hf hx)
      have hx' : x.size ≤ 1000 := by omega
      have hz : (⟨(headB p n s).toArray⟩ : ByteArray).size = 7 := head_length p n s
      have hbo : bytesOf ⟨(headB p n s).toArray⟩ = headB p n s := rfl
      clear hx hxl hf HM1 HM2 HM3
      generalize (⟨(headB p n s).toArray⟩ : ByteArray) = hd at *
      go_wp2_with fail
      refine KD.mono ?_
      rintro e w5 ⟨rfl, n5, rfl⟩
      have HF5 := Lib.hid (HF4.out.drewN n5)
      clear KD
      generalize w4.drewN n5 = W5 at *
      have hj : bytesOf (hd ++ x) = headB p n s ++ bytesOf x := by rw [bytesOf_append, hbo]
      have KS := Se.refseal_any (hd ++ x) W5
      have hfr : Se.frameL (bytesOf (hd ++ x)) = (Crc.frame (headB p n s ++ bytesOf x), 0) := by
        unfold Se.frameL
        rw [if_neg (by rw [hj, List.length_append, head_length, bytesOf_length]; omega), hj]
      rw [hfr] at KS
      clear hfr hj HF4
      go_wp2_with fail
      refine KS.mono ?_
      rintro e w6 ⟨rfl, F6⟩
      have HF7 := Lib.hid (HF5.out.trans F6 fun _ _ h => h)
      clear F6 KS HF5
      go_wp2_with fail
      go_ret2
      rw [HE.out]
      exact ⟨rfl, HF7.out⟩
  · rw [if_neg hf] at KD
    have HE := Lib.hid (HM3.out hf)
    clear hf HM1 HM2 HM3
    go_wp2_with fail
    refine KD.mono ?_
    rintro e w5 ⟨rfl, n5, rfl⟩
    have HF5 := Lib.hid (HF4.out.drewN n5)
    clear KD
    generalize w4.drewN n5 = W5 at *
    go_wp2_with fail
    go_ret2
    rw [HE.out]
    exact ⟨rfl, HF5.out⟩
end Go.Proofs.Ytcencpkoimahbaa

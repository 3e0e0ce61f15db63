/- The walk of PackFills: for all whole numbers the law answers true, and nothing that was there has turned. -/
import Derived.Test.YtjhggjbfbgfekaaWidths
namespace Go.Proofs.Ytjhggjbfbgfekaa
open Go.RowKit

/-- so many bytes, one by one -/
def fillS (s : Pk.S) : Nat → Pk.S
  | 0 => s
  | n + 1 => (fillS s n).num 1 ((n : Int) % 256)
theorem fill_ok {L : Int} (h0 : 0 ≤ L) (n : Nat) :
    (fillS ⟨L, [], 0⟩ n).L = L ∧ (((fillS ⟨L, [], 0⟩ n).bs.length : Nat) : Int) = min (n : Int) L ∧ (fillS ⟨L, [], 0⟩ n).e = if (n : Int) ≤ L then 0 else 2 := by
  induction n with
  | zero => simp [fillS]; omega
  | succ n ih =>
    obtain ⟨h1, h2, h3⟩ := ih
    have hf : Pk.fits 1 ((n : Int) % 256) = true := fits_of (Int.emod_nonneg _ (by decide)) (by have := Int.emod_lt_of_pos (n : Int) (show (0 : Int) < 256 by decide); simpa using this)
    have hs : fillS ⟨L, [], 0⟩ (n + 1) = (fillS ⟨L, [], 0⟩ n).put (Pk.digits 1 ((n : Int) % 256)) := by simp [fillS, Pk.S.num, hf]
    rw [hs]
    generalize fillS ⟨L, [], 0⟩ n = s at *
    refine ⟨by rw [Pk.S.put_L, h1], ?_, ?_⟩
    · unfold Pk.S.put
      by_cases hn : (n : Int) ≤ L
      · rw [if_pos hn] at h3
        rw [if_pos h3, Pk.digits_length, h1]
        by_cases hk : ((1 : Nat) : Int) ≤ L - (s.bs.length : Int)
        · rw [if_pos hk]; simp [Pk.digits_length]; omega
        · rw [if_neg hk]; simp; omega
      · rw [if_neg hn] at h3
        rw [if_neg (by omega)]
        omega
    · unfold Pk.S.put
      by_cases hn : (n : Int) ≤ L
      · rw [if_pos hn] at h3
        rw [if_pos h3, Pk.digits_length, h1]
        by_cases hk : ((1 : Nat) : Int) ≤ L - (s.bs.length : Int)
        · rw [if_pos hk, if_pos (by omega)]; exact h3
        · rw [if_neg hk, if_neg (by omega)]
      · rw [if_neg hn] at h3
        rw [if_neg (by omega), h3, if_neg (by omega)]

set_option maxHeartbeats 1600000 in
theorem fills_walk (a b : Int) (w : World) :
    Calls Try.prog 8 #[.int .i64 a, .int .i64 b] w fun e w' => e = .returned (.bool true) ∧ Below w.heap.size w w' := by
  obtain ⟨x, hx, x0, x1⟩ := mod_bd a 300 (by decide) (by decide)
  obtain ⟨y, hy, y0, y1⟩ := mod_bd b 300 (by decide) (by decide)
  go_enter Try.func8, Try.ntmps8
  go_wp2_with fail
  refine (lives_any _).mono ?_
  rintro e w1 ⟨rfl, hf1⟩
  go_wp2_with fail
  refine (new_calls _ _ (by omega)).mono ?_
  rintro e w2 ⟨rfl, hW, hf2⟩
  simp only [hx, hy]
  clear hx hy
  have g2 := hf1.trans hf2 (fun _ _ h => h)
  have b1 := hf1.size
  clear hf1 hf2
  generalize w1.heap.size = p at *
  go_wp2_with fail
  · go_loopw [7] (fun i wr => ∃ k F', i = .int .i64 (k : Nat) ∧ (k : Int) ≤ y ∧ Wr wr p F' (fillS ⟨max (x - 4) 0, [], 0⟩ k) ∧ Fr (fun _ => False) w wr ∧ ∀ g, F' = some g → w.heap.size ≤ g) (fun i _ => y.toNat - (intOf i).toNat)
    case atStart => exact ⟨0, none, rfl, y0, hW, g2, fun _ h => by cases h⟩
    case round =>
      obtain ⟨k, F1, rfl, hk, hwr, hg, ho⟩ := hrel
      have hL : max (x - 4) 0 = 0 := by omega
      rw [hL] at hwr
      by_cases hlt : (k : Int) < y
      · have hk0 : (k : Int) < 300 := by omega
        obtain ⟨e1, e2, e3⟩ := fill_ok (L := 0) (by omega) k
        obtain ⟨e4, e5, e6⟩ := fill_ok (L := 0) (by omega) (k + 1)
        have K1 := byte_one hwr ((k : Int) % 256) (.inl (by rw [e1]; omega))
        rw [show (fillS ⟨0, [], 0⟩ k).num 1 ((k : Int) % 256) = fillS ⟨0, [], 0⟩ (k + 1) from rfl] at K1
        have H5 := Lib.hid e5
        have HL := Lib.hid hL
        clear e1 e2 e3 e4 e5 e6 hL
        go_wp2_with fail
        refine K1.mono ?_
        rintro e w3 ⟨rfl, F3, hw3, hm3⟩
        obtain ⟨g3, o3⟩ := hm3.own hg b1 ho
        clear K1 hwr hm3 hg ho
        have K2 := len_any hw3
        rw [H5.out, show min (((k + 1 : Nat) : Int)) 0 = 0 by omega] at K2
        go_wp2_with fail
        refine K2.mono ?_
        rintro e w4 ⟨rfl, rfl⟩
        clear K2
        go_wp2
        go_roundw
        case rel => exact ⟨k + 1, F3, by go_num, by omega, by rw [HL.out]; exact hw3, g3, o3⟩
        case measure => simp [intOf]; omega
      · have hky : (k : Int) = y := by omega
        obtain ⟨e4, e5, e6⟩ := fill_ok (L := 0) (by omega) k
        have K1 := done_any hwr
        by_cases hfull : y ≤ 0
        · have hd : (fillS ⟨0, [], 0⟩ k).done = ((fillS ⟨0, [], 0⟩ k).bs, 0) := by
            have he : (fillS ⟨0, [], 0⟩ k).e = 0 := by rw [e6, if_pos (by omega)]
            unfold Pk.S.done; rw [he]; rfl
          rw [hd] at K1
          obtain ⟨st, hst, hsz⟩ : ∃ st : ByteArray, (⟨(fillS ⟨0, [], 0⟩ k).bs.toArray⟩ : ByteArray) = st ∧ (st.size : Int) = y := ⟨_, rfl, by
            show ((fillS ⟨0, [], 0⟩ k).bs.toArray.size : Int) = y
            rw [List.size_toArray, e5]; omega⟩
          simp only [hst] at K1
          clear hst
          have hn : decide (0 < y) = false := by simp; omega
          clear hd e4 e5 e6 hL hlt
          go_wp2_with fail
          refine K1.mono ?_
          rintro e w3 ⟨rfl, n3, rfl⟩
          clear K1
          go_wp2
          go_ret
          exact ⟨rfl, (hg.drewN n3).toBelow0⟩
        · have hd : (fillS ⟨0, [], 0⟩ k).done = ([], 2) := by
            have he : (fillS ⟨0, [], 0⟩ k).e = 2 := by rw [e6, if_neg (by omega)]
            unfold Pk.S.done; rw [he]; rfl
          rw [hd] at K1
          have hn : decide (0 < y) = true := by simp; omega
          clear hd e4 e5 e6 hL hlt
          go_wp2_with fail
          refine K1.mono ?_
          rintro e w3 ⟨rfl, n3, rfl⟩
          clear K1
          go_wp2
          go_ret
          exact ⟨rfl, (hg.drewN n3).toBelow0⟩
  · go_loopw [7] (fun i wr => ∃ k F', i = .int .i64 (k : Nat) ∧ (k : Int) ≤ y ∧ Wr wr p F' (fillS ⟨max (x - 4) 0, [], 0⟩ k) ∧ Fr (fun _ => False) w wr ∧ ∀ g, F' = some g → w.heap.size ≤ g) (fun i _ => y.toNat - (intOf i).toNat)
    case atStart => exact ⟨0, none, rfl, y0, hW, g2, fun _ h => by cases h⟩
    case round =>
      obtain ⟨k, F1, rfl, hk, hwr, hg, ho⟩ := hrel
      have hL : max (x - 4) 0 = (x - 4) := by omega
      rw [hL] at hwr
      by_cases hlt : (k : Int) < y
      · have hk0 : (k : Int) < 300 := by omega
        obtain ⟨e1, e2, e3⟩ := fill_ok (L := (x - 4)) (by omega) k
        obtain ⟨e4, e5, e6⟩ := fill_ok (L := (x - 4)) (by omega) (k + 1)
        have K1 := byte_one hwr ((k : Int) % 256) (.inl (by rw [e1]; omega))
        rw [show (fillS ⟨(x - 4), [], 0⟩ k).num 1 ((k : Int) % 256) = fillS ⟨(x - 4), [], 0⟩ (k + 1) from rfl] at K1
        have H5 := Lib.hid e5
        have HL := Lib.hid hL
        clear e1 e2 e3 e4 e5 e6 hL
        go_wp2_with fail
        refine K1.mono ?_
        rintro e w3 ⟨rfl, F3, hw3, hm3⟩
        obtain ⟨g3, o3⟩ := hm3.own hg b1 ho
        clear K1 hwr hm3 hg ho
        have K2 := len_any hw3
        by_cases hk1 : (k : Int) + 1 ≤ x - 4
        · rw [H5.out, show min (((k + 1 : Nat) : Int)) (x - 4) = (k : Int) + 1 by omega] at K2
          go_wp2_with fail
          refine K2.mono ?_
          rintro e w4 ⟨rfl, rfl⟩
          clear K2
          go_wp2
          go_roundw
          case rel => exact ⟨k + 1, F3, by go_num, by omega, by rw [HL.out]; exact hw3, g3, o3⟩
          case measure => simp [intOf]; omega
        · rw [H5.out, show min (((k + 1 : Nat) : Int)) (x - 4) = x - 4 by omega] at K2
          go_wp2_with fail
          refine K2.mono ?_
          rintro e w4 ⟨rfl, rfl⟩
          clear K2
          go_wp2
          go_roundw
          case rel => exact ⟨k + 1, F3, by go_num, by omega, by rw [HL.out]; exact hw3, g3, o3⟩
          case measure => simp [intOf]; omega
      · have hky : (k : Int) = y := by omega
        obtain ⟨e4, e5, e6⟩ := fill_ok (L := (x - 4)) (by omega) k
        have K1 := done_any hwr
        by_cases hfull : y ≤ (x - 4)
        · have hd : (fillS ⟨(x - 4), [], 0⟩ k).done = ((fillS ⟨(x - 4), [], 0⟩ k).bs, 0) := by
            have he : (fillS ⟨(x - 4), [], 0⟩ k).e = 0 := by rw [e6, if_pos (by omega)]
            unfold Pk.S.done; rw [he]; rfl
          rw [hd] at K1
          obtain ⟨st, hst, hsz⟩ : ∃ st : ByteArray, (⟨(fillS ⟨(x - 4), [], 0⟩ k).bs.toArray⟩ : ByteArray) = st ∧ (st.size : Int) = y := ⟨_, rfl, by
            show ((fillS ⟨(x - 4), [], 0⟩ k).bs.toArray.size : Int) = y
            rw [List.size_toArray, e5]; omega⟩
          simp only [hst] at K1
          clear hst
          have hn : decide ((x - 4) < y) = false := by simp; omega
          clear hd e4 e5 e6 hL hlt
          go_wp2_with fail
          refine K1.mono ?_
          rintro e w3 ⟨rfl, n3, rfl⟩
          clear K1
          go_wp2
          go_ret
          exact ⟨rfl, (hg.drewN n3).toBelow0⟩
        · have hd : (fillS ⟨(x - 4), [], 0⟩ k).done = ([], 2) := by
            have he : (fillS ⟨(x - 4), [], 0⟩ k).e = 2 := by rw [e6, if_neg (by omega)]
            unfold Pk.S.done; rw [he]; rfl
          rw [hd] at K1
          have hn : decide ((x - 4) < y) = true := by simp; omega
          clear hd e4 e5 e6 hL hlt
          go_wp2_with fail
          refine K1.mono ?_
          rintro e w3 ⟨rfl, n3, rfl⟩
          clear K1
          go_wp2
          go_ret
          exact ⟨rfl, (hg.drewN n3).toBelow0⟩
end Go.Proofs.Ytjhggjbfbgfekaa

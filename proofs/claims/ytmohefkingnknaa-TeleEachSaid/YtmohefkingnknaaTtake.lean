/- The contracts of the document's own right and take (package ballastref10). -/
import Derived.Test.YtmohefkingnknaaTstat
import Derived.Test.YtmohefkingnknaaWide
namespace Go.Proofs.Ytmohefkingnknaa.Te
open Go.RowKit

theorem lit_rd {w : World} {b : Nat} (hb : b = w.heap.size) (xs : List Value) (t : TypeId) : Rd (w.alloc (.cells xs.toArray t)) (some ⟨b, 0, none⟩) xs := by
  subst hb
  exact new_rd w xs t

set_option maxHeartbeats 1000000 in
theorem refright_any {A : Option Addr} {c n : Nat} {m : Int} {l : List Int} (w : World) (hl : Rd w A (l.map (Value.int .i64))) (hll : l.length ≤ 9223372036854775807) :
    Calls Try.prog 28 #[.slice A l.length c, .int .i64 (n : Int), .int .i64 m] w fun e w' => e = .returned (.bool (okL l n m)) ∧ Fr (fun _ => False) w w' := by
  rw [okL_out]
  generalize hT : (decide (l.length = n) && !l.any (outB m)) = T
  have HT := Lib.hid hT
  clear hT
  go_enter Try.func28, Try.ntmps28
  go_wp2_with fail
  go_loopw [11] (fun i wr => ∃ k : Nat, k ≤ l.length ∧ i = .int .i64 (k : Nat) ∧ (decide (l.length = n) && !(l.drop k).any (outB m)) = T ∧ Fr (fun _ => False) w wr) (fun i _ => l.length - (intOf i).toNat)
  case atStart => exact ⟨0, Nat.zero_le _, rfl, HT.out, Fr.refl _ _⟩
  case round =>
    clear HT
    obtain ⟨k, hk, rfl, hT, fr⟩ := hrel
    by_cases hlt : k < l.length
    · obtain ⟨g, o, rfl, _, q0⟩ := rd_int (hl.fr fr fun _ _ => id) hlt
      rw [List.drop_eq_getElem_cons hlt, List.any_cons] at hT
      generalize l[k] = x at *
      unfold outB at hT
      by_cases h1 : x < 0
      · rw [show decide (x < 0) = true by simpa using h1] at hT
        simp only [Bool.true_or, Bool.not_true, Bool.and_false] at hT
        have HT := Lib.hid hT
        clear hT
        go_wp2_with fail
        go_ret
        exact ⟨by rw [← HT.out]; rfl, fr⟩
      · by_cases h2 : m < x
        · rw [show decide (m < x) = true by simpa using h2] at hT
          simp only [Bool.true_or, Bool.or_true, Bool.not_true, Bool.and_false] at hT
          have HT := Lib.hid hT
          clear hT
          go_wp2_with fail
          go_ret
          exact ⟨by rw [← HT.out]; rfl, fr⟩
        · rw [show decide (m < x) = false by simpa using h2, show decide (x < 0) = false by simpa using h1] at hT
          simp only [Bool.false_or] at hT
          have HT := Lib.hid hT
          clear hT
          go_wp2_with fail
          go_roundw
          case rel => exact ⟨k + 1, by omega, by go_num, HT.out, fr⟩
          case measure => simp [intOf]; omega
    · have hk' : k = l.length := by omega
      rw [List.drop_eq_nil_of_le (by omega)] at hT
      simp only [List.any_nil, Bool.not_false, Bool.and_true] at hT
      by_cases hn : l.length = n
      · have e2 : ((l.length : Int) == (n : Int)) = true := by simp [hn]
        rw [show decide (l.length = n) = true by simpa using hn] at hT
        have HT := Lib.hid hT
        clear hT hk' hn
        go_wp2_with fail
        go_ret
        exact ⟨by rw [← HT.out]; rfl, fr⟩
      · have e2 : ((l.length : Int) == (n : Int)) = false := by
          simp
          omega
        rw [show decide (l.length = n) = false by simpa using hn] at hT
        have HT := Lib.hid hT
        clear hT hk' hn
        go_wp2_with fail
        go_ret
        exact ⟨by rw [← HT.out]; rfl, fr⟩

theorem cutL_succ {t : List UInt8} {a k : Nat} (h : a + k < t.length) : cutL t a (k + 1) = cutL t a k ++ [(t[a + k].toNat : Int)] := by
  unfold cutL
  rw [List.take_succ_eq_append_getElem (by rw [List.length_drop]; omega)]
  unfold inL
  rw [List.map_append]
  simp
theorem cutL_over {t : List UInt8} {a k n : Nat} (h : k ≤ n) (hk : k = n ∨ t.length ≤ a + k) : cutL t a n = cutL t a k := by
  rcases hk with rfl | hk
  · rfl
  · unfold cutL
    rw [List.take_of_length_le (by rw [List.length_drop]; omega), List.take_of_length_le (by rw [List.length_drop]; omega)]

set_option maxHeartbeats 2000000 in
theorem take_end {w wr : World} {A : Option Addr} {c k n a : Nat} {t : List UInt8} (hown : wr.ownsRow w.heap.size 3 1 (.slice A k c) k ((cutL t a k).map (Value.int .i64))) (hl : (cutL t a k).length = k) (hk : k ≤ 17592186044416) (ho : cutL t a n = cutL t a k) (F : Fr (fun _ => False) w wr) :
    ∃ x : L3, Ending.returned (.slice A k c) = .returned x.val ∧ x.l = cutL t a n ∧ x.Ok wr ∧ (∀ q, blk x.A = some q → w.heap.size ≤ q ∧ q < wr.heap.size) ∧ Fr (fun _ => False) w wr := by
  have hb : ∀ q, blk A = some q → (Value.slice A k c).ownBlock = some q := fun q hq => by rw [Row.own]; exact hq
  refine ⟨⟨A, cutL t a k, c⟩, ?_, ho.symm, ⟨wide_rd hown, by show (cutL t a k).length ≤ _; omega, fun _ q hq => (World.ownsRow.lt hown q (hb q hq)).2⟩, fun q hq => World.ownsRow.lt hown q (hb q hq), F⟩
  show _ = Ending.returned (Value.slice A (cutL t a k).length c)
  rw [hl]
set_option maxRecDepth 100000 in
theorem rtake_any (s : ByteArray) (a n : Nat) (w : World) (ha : a ≤ 70368744177665) (hn : n ≤ 17592186044416) :
    Calls Try.prog 39 #[.string s, .int .i64 (a : Int), .int .i64 (n : Int)] w fun e w' => ∃ x : L3, e = .returned x.val ∧ x.l = cutL (bytesOf s) a n ∧ x.Ok w' ∧ (∀ q, blk x.A = some q → w.heap.size ≤ q ∧ q < w'.heap.size) ∧ Fr (fun _ => False) w w' := by
  obtain ⟨i0, hi0, hz0, hz1, hz2⟩ := info_parts Try.infoI
  have hsz := bytesOf_length s
  have HA := Lib.hid ha
  have HN := Lib.hid hn
  have hai : (a : Int) ≤ 70368744177665 := by omega
  have hni : (n : Int) ≤ 17592186044416 := by omega
  clear ha hn
  go_enter Try.func39, Try.ntmps39
  go_wp2_with fail
  go_loopw [7, 8] (fun v7 v8 wr => ∃ (k : Nat) (A : Option Addr) (c : Nat), k ≤ n ∧ (k = 0 ∨ a + k ≤ (bytesOf s).length) ∧ v8 = .int .i64 ((a + k : Nat) : Int) ∧ v7 = .slice A k c ∧ wr.ownsRow w.heap.size 3 1 (.slice A k c) k ((cutL (bytesOf s) a k).map (Value.int .i64)) ∧ Fr (fun _ => False) w wr) (fun _ i _ => a + n - (intOf i).toNat)
  case atStart => exact ⟨0, none, 0, Nat.zero_le _, .inl rfl, rfl, rfl, World.ownsRow_nil w _ _ _, Fr.refl _ _⟩
  case round =>
    obtain ⟨k, A, c, hk, hka, rfl, rfl, hown, F⟩ := hrel
    by_cases h1 : k < n
    · by_cases h2 : a + k < s.size
      · have h3 : a + k < (bytesOf s).length := by omega
        have hcs := cutL_succ h3
        have HCS := Lib.hid hcs
        have hlo := World.ownsRow.lt hown
        have hx : wrap64 ((s[a + k]'h2).toNat : Int) = ((bytesOf s)[a + k].toNat : Int) := by
          have hb := UInt8.toNat_lt (s[a + k]'h2)
          rw [IntWalk.wrap64_in _ ⟨by omega, by omega⟩]
          rfl
        clear hcs hka
        generalize ((bytesOf s)[a + k].toNat : Int) = X at *
        have hb1 : k + 1 ≤ 140737488355328 := by omega
        have hb2 : (k + 1) * 8 ≤ 140737488355328 := by omega
        have HB1 := Lib.hid hb1
        have HB2 := Lib.hid hb2
        clear hb1 hb2
        go_wp2_with (at_builtin; simp only [hx]; refine wpList_append_wide _ rfl (.tmp 23) (.tmp 28) 22 rfl w.heap.size 3 i0 _ 1 8 Try.underlying22 hi0 hz0 hz1 hz2 rfl (by decide) (.slice A k c) k ((cutL (bytesOf s) a k).map (Value.int .i64)) rfl (hown.alloc _) (some ⟨wr.heap.size, 0, none⟩) 1 1 [.int .i64 X] rfl rfl (lit_rd rfl _ _) (by simp [Value.oneCell']) (by have := HB1.out; unfold maxLen; omega) HB2.out (Nat.le_trans F.size (by simp)) ?_; intro v6 w6 hown6 hg6 hat6; obtain ⟨A6, c6, rfl, _, _, _, _⟩ := wide_form hown6)
        have F6 := (F.alloc (.cells #[.int .i64 X] 3)).grown hg6 fun j hj => .inr (hlo j hj).1
        have hown7 : w6.ownsRow w.heap.size 3 1 (.slice A6 (k + 1) c6) (k + 1) ((cutL (bytesOf s) a (k + 1)).map (Value.int .i64)) := by
          rw [HCS.out, List.map_append]
          exact hown6
        have HO7 := Lib.hid hown7
        clear hg6 hat6 hlo hown6 hown7
        go_wp2_with fail
        go_roundw
        case rel => exact ⟨k + 1, A6, c6, by omega, .inr (by omega), by go_num, rfl, HO7.out, F6⟩
        case measure => simp [intOf]; omega
      · have hov := cutL_over (t := bytesOf s) (a := a) (k := k) (n := n) hk (.inr (by omega))
        have HOV := Lib.hid hov
        have hkl : (cutL (bytesOf s) a k).length = k := by
          have := hown.1
          simpa using this
        have HKL := Lib.hid hkl
        have HOW := Lib.hid hown
        clear hov hkl hka hown
        go_wp2_with fail
        go_ret
        exact take_end HOW.out HKL.out (by have := HN.out; omega) HOV.out F
    · have hov := cutL_over (t := bytesOf s) (a := a) (k := k) (n := n) hk (.inl (by omega))
      have HOV := Lib.hid hov
      have hkl : (cutL (bytesOf s) a k).length = k := by
        have := hown.1
        simpa using this
      have HKL := Lib.hid hkl
      have HOW := Lib.hid hown
      clear hov hkl hka hown
      go_wp2_with fail
      go_ret
      exact take_end HOW.out HKL.out (by have := HN.out; omega) HOV.out F
end Go.Proofs.Ytmohefkingnknaa.Te

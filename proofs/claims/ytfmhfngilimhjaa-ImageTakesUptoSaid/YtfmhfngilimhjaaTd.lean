/- Contracts and plain mathematics of earlier stages: Ttake, Tbytes, Trefst, Trefr. -/
import Derived.Test.YtfmhfngilimhjaaTb
import Derived.Test.YtfmhfngilimhjaaKa
import Derived.Test.YtfmhfngilimhjaaTc
import Derived.Deep.Cut
namespace Go.Proofs.Ytfmhfngilimhjaa.Te
open Go.RowKit

theorem lit_rd {w : World} {b : Nat} (hb : b = w.heap.size) (xs : List Value) (t : TypeId) : Rd (w.alloc (.cells xs.toArray t)) (some ⟨b, 0, none⟩) xs := by
  subst hb
  exact new_rd w xs t

set_option maxHeartbeats 1000000 in
theorem refright_any {A : Option Addr} {c n : Nat} {m : Int} {l : List Int} (w : World) (hl : Rd w A (l.map (Value.int .i64))) (hll : l.length ≤ 9223372036854775807) :
    Calls Try.prog 57 #[.slice A l.length c, .int .i64 (n : Int), .int .i64 m] w fun e w' => e = .returned (.bool (okL l n m)) ∧ Fr (fun _ => False) w w' := by
  rw [okL_out]
  generalize hT : (decide (l.length = n) && !l.any (outB m)) = T
  have HT := Lib.hid hT
  clear hT
  go_enter Try.func57, Try.ntmps57
  go_wp2_with fail
  go_loopw [11] (fun i wr => ∃ k : Nat, k ≤ l.length ∧ i = .int .i64 (k : Nat) ∧ (decide (l.length = n) && !(l.drop k).any (outB m)) = T ∧ Fr (fun _ => False) w wr) (fun i _ => l.length - (intOf i).toNat)
  case atStart => exact ⟨0, Nat.zero_le _, rfl, HT.out, Fr.refl _ _⟩
  case round =>
    clear HT
    obtain ⟨k, hk, rfl, hT, fr⟩ := hrel
    by_cases hlt : k < l.length
    · obtain ⟨g, o, rfl, _, q0⟩ := rd_int (hl.fr fr fun _ _ => id) hlt
      rw [List.drop_eq_getElem_cons hlt, List.any_cons] at hT
      generalize l[k] = x at *
      unfold outB at hT
      by_cases h1 : x < 0
      · rw [show decide (x < 0) = true by simpa using h1] at hT
        simp only [Bool.true_or, Bool.not_true, Bool.and_false] at hT
        have HT := Lib.hid hT
        clear hT
        go_wp2_with fail
        go_ret
        exact ⟨by rw [← HT.out]; rfl, fr⟩
      · by_cases h2 : m < x
        · rw [show decide (m < x) = true by simpa using h2] at hT
          simp only [Bool.true_or, Bool.or_true, Bool.not_true, Bool.and_false] at hT
          have HT := Lib.hid hT
          clear hT
          go_wp2_with fail
          go_ret
          exact ⟨by rw [← HT.out]; rfl, fr⟩
        · rw [show decide (m < x) = false by simpa using h2, show decide (x < 0) = false by simpa using h1] at hT
          simp only [Bool.false_or] at hT
          have HT := Lib.hid hT
          clear hT
          go_wp2_with fail
          go_roundw
          case rel => exact ⟨k + 1, by omega, by go_num, HT.out, fr⟩
          case measure => simp [intOf]; omega
    · have hk' : k = l.length := by omega
      rw [List.drop_eq_nil_of_le (by omega)] at hT
      simp only [List.any_nil, Bool.not_false, Bool.and_true] at hT
      by_cases hn : l.length = n
      · have e2 : ((l.length : Int) == (n : Int)) = true := by simp [hn]
        rw [show decide (l.length = n) = true by simpa using hn] at hT
        have HT := Lib.hid hT
        clear hT hk' hn
        go_wp2_with fail
        go_ret
        exact ⟨by rw [← HT.out]; rfl, fr⟩
      · have e2 : ((l.length : Int) == (n : Int)) = false := by
          simp
          omega
        rw [show decide (l.length = n) = false by simpa using hn] at hT
        have HT := Lib.hid hT
        clear hT hk' hn
        go_wp2_with fail
        go_ret
        exact ⟨by rw [← HT.out]; rfl, fr⟩

theorem cutL_succ {t : List UInt8} {a k : Nat} (h : a + k < t.length) : cutL t a (k + 1) = cutL t a k ++ [(t[a + k].toNat : Int)] := by
  unfold cutL
  rw [List.take_succ_eq_append_getElem (by rw [List.length_drop]; omega)]
  unfold inL
  rw [List.map_append]
  simp
theorem cutL_over {t : List UInt8} {a k n : Nat} (h : k ≤ n) (hk : k = n ∨ t.length ≤ a + k) : cutL t a n = cutL t a k := by
  rcases hk with rfl | hk
  · rfl
  · unfold cutL
    rw [List.take_of_length_le (by rw [List.length_drop]; omega), List.take_of_length_le (by rw [List.length_drop]; omega)]

set_option maxHeartbeats 2000000 in
theorem take_end {w wr : World} {A : Option Addr} {c k n a : Nat} {t : List UInt8} (hown : wr.ownsRow w.heap.size 3 1 (.slice A k c) k ((cutL t a k).map (Value.int .i64))) (hl : (cutL t a k).length = k) (hk : k ≤ 17592186044416) (ho : cutL t a n = cutL t a k) (F : Fr (fun _ => False) w wr) :
    ∃ x : L3, Ending.returned (.slice A k c) = .returned x.val ∧ x.l = cutL t a n ∧ x.Ok wr ∧ (∀ q, blk x.A = some q → w.heap.size ≤ q ∧ q < wr.heap.size) ∧ Fr (fun _ => False) w wr := by
  have hb : ∀ q, blk A = some q → (Value.slice A k c).ownBlock = some q := fun q hq => by rw [Row.own]; exact hq
  refine ⟨⟨A, cutL t a k, c⟩, ?_, ho.symm, ⟨wide_rd hown, by show (cutL t a k).length ≤ _; omega, fun _ q hq => (World.ownsRow.lt hown q (hb q hq)).2⟩, fun q hq => World.ownsRow.lt hown q (hb q hq), F⟩
  show _ = Ending.returned (Value.slice A (cutL t a k).length c)
  rw [hl]
set_option maxRecDepth 100000 in
theorem rtake_any (s : ByteArray) (a n : Nat) (w : World) (ha : a ≤ 70368744177665) (hn : n ≤ 17592186044416) :
    Calls Try.prog 75 #[.string s, .int .i64 (a : Int), .int .i64 (n : Int)] w fun e w' => ∃ x : L3, e = .returned x.val ∧ x.l = cutL (bytesOf s) a n ∧ x.Ok w' ∧ (∀ q, blk x.A = some q → w.heap.size ≤ q ∧ q < w'.heap.size) ∧ Fr (fun _ => False) w w' := by
  obtain ⟨i0, hi0, hz0, hz1, hz2⟩ := info_parts Try.infoI
  have hsz := bytesOf_length s
  have HA := Lib.hid ha
  have HN := Lib.hid hn
  have hai : (a : Int) ≤ 70368744177665 := by omega
  have hni : (n : Int) ≤ 17592186044416 := by omega
  clear ha hn
  go_enter Try.func75, Try.ntmps75
  go_wp2_with fail
  go_loopw [7, 8] (fun v7 v8 wr => ∃ (k : Nat) (A : Option Addr) (c : Nat), k ≤ n ∧ (k = 0 ∨ a + k ≤ (bytesOf s).length) ∧ v8 = .int .i64 ((a + k : Nat) : Int) ∧ v7 = .slice A k c ∧ wr.ownsRow w.heap.size 3 1 (.slice A k c) k ((cutL (bytesOf s) a k).map (Value.int .i64)) ∧ Fr (fun _ => False) w wr) (fun _ i _ => a + n - (intOf i).toNat)
  case atStart => exact ⟨0, none, 0, Nat.zero_le _, .inl rfl, rfl, rfl, World.ownsRow_nil w _ _ _, Fr.refl _ _⟩
  case round =>
    obtain ⟨k, A, c, hk, hka, rfl, rfl, hown, F⟩ := hrel
    by_cases h1 : k < n
    · by_cases h2 : a + k < s.size
      · have h3 : a + k < (bytesOf s).length := by omega
        have hcs := cutL_succ h3
        have HCS := Lib.hid hcs
        have hlo := World.ownsRow.lt hown
        have hx : wrap64 ((s[a + k]'h2).toNat : Int) = ((bytesOf s)[a + k].toNat : Int) := by
          have hb := UInt8.toNat_lt (s[a + k]'h2)
          rw [IntWalk.wrap64_in _ ⟨by omega, by omega⟩]
          rfl
        clear hcs hka
        generalize ((bytesOf s)[a + k].toNat : Int) = X at *
        have hb1 : k + 1 ≤ 140737488355328 := by omega
        have hb2 : (k + 1) * 8 ≤ 140737488355328 := by omega
        have HB1 := Lib.hid hb1
        have HB2 := Lib.hid hb2
        clear hb1 hb2
        go_wp2_with (at_builtin; simp only [hx]; refine wpList_append_wide _ rfl (.tmp 23) (.tmp 28) 25 rfl w.heap.size 3 i0 _ 1 8 Try.underlying25 hi0 hz0 hz1 hz2 rfl (by decide) (.slice A k c) k ((cutL (bytesOf s) a k).map (Value.int .i64)) rfl (hown.alloc _) (some ⟨wr.heap.size, 0, none⟩) 1 1 [.int .i64 X] rfl rfl (lit_rd rfl _ _) (by simp [Value.oneCell']) (by have := HB1.out; unfold maxLen; omega) HB2.out (Nat.le_trans F.size (by simp)) ?_; intro v6 w6 hown6 hg6 hat6; obtain ⟨A6, c6, rfl, _, _, _, _⟩ := wide_form hown6)
        have F6 := (F.alloc (.cells #[.int .i64 X] 3)).grown hg6 fun j hj => .inr (hlo j hj).1
        have hown7 : w6.ownsRow w.heap.size 3 1 (.slice A6 (k + 1) c6) (k + 1) ((cutL (bytesOf s) a (k + 1)).map (Value.int .i64)) := by
          rw [HCS.out, List.map_append]
          exact hown6
        have HO7 := Lib.hid hown7
        clear hg6 hat6 hlo hown6 hown7
        go_wp2_with fail
        go_roundw
        case rel => exact ⟨k + 1, A6, c6, by omega, .inr (by omega), by go_num, rfl, HO7.out, F6⟩
        case measure => simp [intOf]; omega
      · have hov := cutL_over (t := bytesOf s) (a := a) (k := k) (n := n) hk (.inr (by omega))
        have HOV := Lib.hid hov
        have hkl : (cutL (bytesOf s) a k).length = k := by
          have := hown.1
          simpa using this
        have HKL := Lib.hid hkl
        have HOW := Lib.hid hown
        clear hov hkl hka hown
        go_wp2_with fail
        go_ret
        exact take_end HOW.out HKL.out (by have := HN.out; omega) HOV.out F
    · have hov := cutL_over (t := bytesOf s) (a := a) (k := k) (n := n) hk (.inl (by omega))
      have HOV := Lib.hid hov
      have hkl : (cutL (bytesOf s) a k).length = k := by
        have := hown.1
        simpa using this
      have HKL := Lib.hid hkl
      have HOW := Lib.hid hown
      clear hov hkl hka hown
      go_wp2_with fail
      go_ret
      exact take_end HOW.out HKL.out (by have := HN.out; omega) HOV.out F
end Go.Proofs.Ytfmhfngilimhjaa.Te

namespace Go.Proofs.Ytfmhfngilimhjaa.Te
open Go.RowKit

def bytesX (ls : List L3) : List UInt8 := ls.flatMap fun x => byL x.l
theorem bytesX_succ {ls : List L3} {k : Nat} (h : k < ls.length) : bytesX (ls.take (k + 1)) = bytesX (ls.take k) ++ byL ls[k].l := by
  rw [List.take_succ_eq_append_getElem h]
  unfold bytesX
  rw [List.flatMap_append]
  simp
theorem bytesX_le (ls : List L3) (h : ∀ x ∈ ls, x.l.length ≤ 17592186044416) : ∀ k, k ≤ ls.length → (bytesX (ls.take k)).length ≤ k * 17592186044416
  | 0, _ => by simp [bytesX]
  | k + 1, hk => by
    have ih := bytesX_le ls h k (by omega)
    have h1 := h ls[k] (List.getElem_mem _)
    rw [bytesX_succ (by omega), List.length_append, byL_length]
    omega
theorem byL_succ {l : List Int} {k : Nat} (h : k < l.length) : byL (l.take (k + 1)) = byL (l.take k) ++ [UInt8.ofNat l[k].toNat] := by
  rw [List.take_succ_eq_append_getElem h, byL_append]
  rfl
theorem B_of {x : Int} (h0 : 0 ≤ x) (h1 : x ≤ 255) : B (UInt8.ofNat x.toNat) = .int .u8 x := by
  unfold B
  rw [UInt8.toNat_ofNat']
  congr 1
  omega
theorem rd_l3 {w : World} {A : Option Addr} {ls : List L3} (h : Rd w A (ls.map L3.val)) {j : Nat} (hj : j < ls.length) : ∃ g o, A = some ⟨g, o, none⟩ ∧ g < w.heap.size ∧ w.cell? ⟨g, o + j, none⟩ = some (.slice ls[j].A ls[j].l.length ls[j].c) := by
  have h0 : (ls.map L3.val)[j]? = some ls[j].val := by rw [List.getElem?_map, List.getElem?_eq_getElem hj]; rfl
  obtain ⟨g, o, rfl, hg, hc⟩ := h (by have := (List.getElem?_eq_some_iff.1 h0).1; omega)
  exact ⟨g, o, rfl, hg, hc _ _ h0⟩

set_option maxRecDepth 100000 in
set_option maxHeartbeats 1000000 in
theorem bytes_any {A : Option Addr} {c : Nat} {ls : List L3} (w : World) (kd : Nat) (hk : kd ≤ 255) (h : Rd w A (ls.map L3.val)) (hok : ∀ x ∈ ls, x.Ok w) (hsm : ∀ x ∈ ls, ∀ y ∈ x.l, 0 ≤ y ∧ y ≤ 255) (hal : ls.length ≤ 4) :
    Calls Try.prog 58 #[.int .i64 (kd : Int), .slice A ls.length c] w fun e w' => e = .returned (.string ⟨(UInt8.ofNat kd :: bytesX ls).toArray⟩) ∧ Fr (fun _ => False) w w' := by
  obtain ⟨i0, hi0, hz0, hz1, hz2⟩ := info_parts Try.infoB
  have hle := bytesX_le ls fun x hx => (hok x hx).le
  have HLE := Lib.hid hle
  have HOK := Lib.hid hok
  have HSM := Lib.hid hsm
  clear hle hok hsm
  have hkw : IntKind.u8.wrap (kd : Int) = (kd : Int) := by rw [IntKind.wrap_u8]; omega
  have hown0 : (w.alloc (.cells #[.int .u8 (kd : Int)] 5)).ownsRow w.heap.size 5 1 (.slice (some ⟨w.heap.size, 0, none⟩) 1 1) 1 ([UInt8.ofNat kd].map B) := by
    have e : [UInt8.ofNat kd].map B = [.int .u8 (kd : Int)] := by
      rw [List.map_singleton]
      congr 1
      have := B_of (x := (kd : Int)) (by omega) (by omega)
      rwa [Int.toNat_natCast] at this
    rw [e]
    exact ⟨by simp, .inr ⟨w.heap.size, 1, #[.int .u8 (kd : Int)], rfl, Nat.le_refl _, heap_alloc_new w _, Nat.le_refl _, by unfold maxLen; omega, by simp, by simp⟩⟩
  have f0 := (Fr.refl (fun _ => False) w).alloc (.cells #[.int .u8 (kd : Int)] 5)
  have HOWN0 := Lib.hid hown0
  clear hown0
  go_enter Try.func58, Try.ntmps58
  go_wp2_with fail
  go_loopw [5, 15] (fun v5 v15 wr => ∃ (i : Nat) (L : List UInt8) (A : Option Addr) (c : Nat), i ≤ ls.length ∧ v15 = .int .i64 (i : Nat) ∧ L = UInt8.ofNat kd :: bytesX (ls.take i) ∧ v5 = .slice A L.length c ∧ wr.ownsRow w.heap.size 5 1 (.slice A L.length c) L.length (L.map B) ∧ Fr (fun _ => False) w wr) (fun _ i _ => ls.length - (intOf i).toNat)
  case atStart => exact ⟨0, [UInt8.ofNat kd], some ⟨w.heap.size, 0, none⟩, 1, Nat.zero_le _, rfl, rfl, rfl, HOWN0.out, f0⟩
  case round =>
    clear HOWN0 f0
    obtain ⟨i, L, A5, c5, hi, rfl, hL, rfl, hown, F⟩ := hrel
    by_cases hlt : i < ls.length
    · obtain ⟨g, o, rfl, _, q0⟩ := rd_l3 (h.fr F fun _ _ => id) hlt
      have ok := HOK.out _ (List.getElem_mem hlt)
      have sm := HSM.out _ (List.getElem_mem hlt)
      have hsc := bytesX_succ hlt
      have hLl : L.length = 1 + (bytesX (ls.take i)).length := by rw [hL, List.length_cons]; omega
      have hb1 := HLE.out i hi
      have hb2 : L.length ≤ 1 + 3 * 17592186044416 := by omega
      have hLx : UInt8.ofNat kd :: bytesX (ls.take (i + 1)) = L ++ byL ls[i].l := by rw [hsc, hL]; rfl
      have HLX := Lib.hid hLx
      have HB2 := Lib.hid hb2
      clear hsc hLl hb1 hb2 hLx hL
      generalize ls[i] = X at *
      obtain ⟨XA, xl, xc⟩ := X
      simp only at *
      have hrd := ok.rd
      have hle := ok.le
      have HRD := Lib.hid hrd
      have HXLE := Lib.hid hle
      have SM := Lib.hid sm
      have hxl9 : xl.length ≤ 9223372036854775807 := by simp only at hle; omega
      clear ok sm hrd hle
      go_wp2_with fail
      go_loopw [5, 21] (fun v5 v21 wq => ∃ (k : Nat) (M : List UInt8) (A : Option Addr) (c : Nat), k ≤ xl.length ∧ v21 = .int .i64 (k : Nat) ∧ M = L ++ byL (xl.take k) ∧ v5 = .slice A M.length c ∧ wq.ownsRow w.heap.size 5 1 (.slice A M.length c) M.length (M.map B) ∧ Fr (fun _ => False) w wq) (fun _ i _ => xl.length - (intOf i).toNat)
      case atStart => exact ⟨0, L, A5, c5, Nat.zero_le _, rfl, by simp [byL], rfl, hown, F⟩
      case round =>
        clear hown F
        obtain ⟨k, M, A, c, hk', rfl, hM, rfl, hown, F⟩ := hrel
        by_cases hlk : k < xl.length
        · obtain ⟨ga, oa, rfl, _, q1⟩ := rd_int (HRD.out.fr F fun _ _ => id) hlk
          have sx := SM.out _ (List.getElem_mem hlk)
          have hbs := byL_succ hlk
          have hMl : M.length = L.length + k := by rw [hM, List.length_append, byL_length, List.length_take]; omega
          have hMx : L ++ byL (xl.take (k + 1)) = M ++ [UInt8.ofNat xl[k].toNat] := by rw [hbs, hM, List.append_assoc]
          have hBx := B_of sx.1 sx.2
          have HMX := Lib.hid hMx
          have HBX := Lib.hid hBx
          have hm1 : M.length + 1 ≤ 140737488355328 := by
            have := HB2.out
            have : xl.length ≤ 17592186044416 := HXLE.out
            omega
          have HM1 := Lib.hid hm1
          have hwx : IntKind.u8.wrap xl[k] = xl[k] := by rw [IntKind.wrap_u8]; omega
          have hlo := World.ownsRow.lt hown
          clear hbs hMl hMx hBx hm1 hM sx
          generalize xl[k] = x at *
          go_wp2_with (at_builtin; refine wpList_append_wide _ rfl (.tmp 25) (.tmp 28) 151 rfl w.heap.size 5 i0 _ 1 1 Try.underlying151 hi0 hz0 hz1 hz2 rfl (by decide) (.slice A M.length c) M.length (M.map B) rfl (hown.alloc _) (some ⟨wr.heap.size, 0, none⟩) 1 1 [.int .u8 x] rfl rfl (lit_rd rfl _ _) (by simp [Value.oneCell']) (by have := HM1.out; unfold maxLen; omega) (by have := HM1.out; omega) (Nat.le_trans F.size (by simp)) ?_; intro v6 w6 hown6 hg6 hat6; obtain ⟨A6, c6, rfl, _, _, _, _⟩ := wide_form hown6)
          have F6 := (F.alloc (.cells #[.int .u8 x] 5)).grown hg6 fun j hj => .inr (hlo j hj).1
          have hown7 : w6.ownsRow w.heap.size 5 1 (.slice A6 (M ++ [UInt8.ofNat x.toNat]).length c6) (M ++ [UInt8.ofNat x.toNat]).length ((M ++ [UInt8.ofNat x.toNat]).map B) := by
            rw [List.length_append, List.map_append, List.map_singleton, HBX.out]
            exact hown6
          have HO7 := Lib.hid hown7
          clear hg6 hat6 hlo hown6 hown7
          go_wp2_with fail
          go_roundw
          case rel => exact ⟨k + 1, M ++ [UInt8.ofNat x.toNat], A6, c6, by omega, by go_num, HMX.out.symm, by rw [List.length_append]; rfl, HO7.out, F6⟩
          case measure => simp [intOf]; omega
        · have hkl : k = xl.length := by omega
          have hM2 : M = UInt8.ofNat kd :: bytesX (ls.take (i + 1)) := by rw [HLX.out, hM, hkl, List.take_length]
          have HM2 := Lib.hid hM2
          have HOW := Lib.hid hown
          clear hM hM2 hkl hown
          go_wp2_with fail
          go_roundw
          case rel => exact ⟨i + 1, M, A, c, by omega, by go_num, HM2.out, rfl, HOW.out, F⟩
          case measure => simp [intOf]; omega
    · have hil : i = ls.length := by omega
      rw [hil, List.take_length] at hL
      have HL := Lib.hid hL
      have hcv := own_text (own_zero hown) Try.underlying151 Try.underlying5 Try.underlying9
      clear hil hown hL
      go_wp2_with fail
      go_ret
      exact ⟨by rw [← HL.out]; rfl, F⟩
end Go.Proofs.Ytfmhfngilimhjaa.Te

namespace Go.Proofs.Ytfmhfngilimhjaa.Te
open Go.RowKit

set_option maxHeartbeats 1000000 in
theorem refstatus_any {h : Sh} {x : Sta} {w : World} (hx : x.Ok w) :
    Calls Try.prog 25 #[h.val, x.val] w fun e w' => e = .returned (.tuple #[.string ⟨(stL h.hs x.st).1.toArray⟩, .int .i64 (stL h.hs x.st).2]) ∧ Fr (fun _ => False) w w' := by
  have fa := (Fr.refl (fun _ => False) w).alloc (.cells h.cells.toArray 33)
  have fb := fa.alloc (.cells x.cells.toArray 65)
  have ih : Is ((w.alloc (.cells h.cells.toArray 33)).alloc (.cells x.cells.toArray 65)) w.heap.size 33 h.cells.toArray := (Is.new _ _ _).alloc _
  have ix : Is ((w.alloc (.cells h.cells.toArray 33)).alloc (.cells x.cells.toArray 65)) (w.heap.size + 1) 65 x.cells.toArray := by
    have := Is.new (w.alloc (.cells h.cells.toArray 33)) 65 x.cells.toArray
    simpa using this
  have hx0 := hx.fr fb
  have K0 := fun (W : World) (k : x.Ok W) => refright_any (c := x.occ.c) (n := h.s.n) (m := 1) W k.occ.rd (by have := k.occ.le; omega)
  have K1 := fun (W : World) (k : x.Ok W) => refright_any (c := x.pos.c) (n := h.p.n) (m := 2) W k.pos.rd (by have := k.pos.le; omega)
  have K2 := fun (W : World) (k : x.Ok W) => refright_any (c := x.shut.c) (n := h.c.n) (m := 1) W k.shut.rd (by have := k.shut.le; omega)
  have K3 := fun (W : World) (k : x.Ok W) => refright_any (c := x.lamp.c) (n := h.g.n) (m := 1) W k.lamp.rd (by have := k.lamp.le; omega)
  have KB := fun (W : World) (g : Nat) (k : x.Ok W) (r : Rd W (some ⟨g, 0, none⟩) ([x.occ, x.pos, x.shut, x.lamp].map L3.val)) (sm : ∀ y ∈ [x.occ, x.pos, x.shut, x.lamp], ∀ z ∈ y.l, 0 ≤ z ∧ z ≤ 255) => bytes_any (c := 4) (ls := [x.occ, x.pos, x.shut, x.lamp]) W 1 (by decide) r (by
    intro y hy
    simp only [List.mem_cons, List.not_mem_nil, or_false] at hy
    rcases hy with rfl | rfl | rfl | rfl
    · exact k.occ
    · exact k.pos
    · exact k.shut
    · exact k.lamp) sm (by simp)
  rw [show UInt8.ofNat 1 = 1 from rfl] at KB
  have hby : (1 : UInt8) :: bytesX [x.occ, x.pos, x.shut, x.lamp] = x.st.bytes := by
    show (1 : UInt8) :: (byL _ ++ (byL _ ++ (byL _ ++ (byL _ ++ [])))) = _
    rw [List.append_nil]
    rfl
  rw [hby] at KB
  have hL : stL h.hs x.st = if (okL x.occ.l h.s.n 1 && (okL x.pos.l h.p.n 2 && (okL x.shut.l h.c.n 1 && (okL x.lamp.l h.g.n 1)))) = true then (x.st.bytes, 0) else ([], 32) := rfl
  have s0 : okL x.occ.l h.s.n 1 = true → ∀ z ∈ x.occ.l, 0 ≤ z ∧ z ≤ 255 := fun e => small e (by decide)
  have s1 : okL x.pos.l h.p.n 2 = true → ∀ z ∈ x.pos.l, 0 ≤ z ∧ z ≤ 255 := fun e => small e (by decide)
  have s2 : okL x.shut.l h.c.n 1 = true → ∀ z ∈ x.shut.l, 0 ≤ z ∧ z ≤ 255 := fun e => small e (by decide)
  have s3 : okL x.lamp.l h.g.n 1 = true → ∀ z ∈ x.lamp.l, 0 ≤ z ∧ z ≤ 255 := fun e => small e (by decide)
  have HL := Lib.hid hL
  have HX := Lib.hid hx0
  have IX := Lib.hid ix
  have IH := Lib.hid ih
  have FB := Lib.hid fb
  clear hL hx hx0 ix ih fa fb hby
  generalize stL h.hs x.st = R at *
  generalize x.st.bytes = YB at *
  generalize okL x.occ.l h.s.n 1 = B0 at *
  generalize okL x.pos.l h.p.n 2 = B1 at *
  generalize okL x.shut.l h.c.n 1 = B2 at *
  generalize okL x.lamp.l h.g.n 1 = B3 at *
  unfold Sh.cells Sta.cells at *
  unfold Sh.val Sta.val at *
  have xs0 := four_cells IX.out
  have hs0 := four_cells IH.out
  have H0 := HX
  have F0 := FB
  have X0 := IX
  have Y0 := IH
  clear HX FB IX IH
  cases B0 with
  | false =>
    have HR := Lib.hid HL.out
    clear HL
    have hR : R = ([], 32) := HR.out
    have HS := Lib.hid hR
    clear hR HR
    go_enter Try.func25, Try.ntmps25
    go_wp2_with fail
    generalize (w.alloc _).alloc _ = w0 at *
    refine (K0 w0 H0.out).mono ?_
    rintro e w1 ⟨rfl, f1⟩
    have H1 := Lib.hid (H0.out.fr f1)
    have F1 := Lib.hid (fr_nil F0.out f1)
    have X1 := Lib.hid (X0.out.fr f1 id)
    have Y1 := Lib.hid (Y0.out.fr f1 id)
    have xs1 := four_cells X1.out
    have hs1 := four_cells Y1.out
    clear f1 K0 xs0 hs0 H0 F0 X0 Y0
    go_wp2_with fail
    go_ret2
    rw [HS.out]
    exact ⟨rfl, F1.out⟩
  | true =>
    cases B1 with
    | false =>
      have HR := Lib.hid HL.out
      clear HL
      have hR : R = ([], 32) := HR.out
      have HS := Lib.hid hR
      clear hR HR
      go_enter Try.func25, Try.ntmps25
      go_wp2_with fail
      generalize (w.alloc _).alloc _ = w0 at *
      refine (K0 w0 H0.out).mono ?_
      rintro e w1 ⟨rfl, f1⟩
      have H1 := Lib.hid (H0.out.fr f1)
      have F1 := Lib.hid (fr_nil F0.out f1)
      have X1 := Lib.hid (X0.out.fr f1 id)
      have Y1 := Lib.hid (Y0.out.fr f1 id)
      have xs1 := four_cells X1.out
      have hs1 := four_cells Y1.out
      clear f1 K0 xs0 hs0 H0 F0 X0 Y0
      go_wp2_with fail
      refine (K1 w1 H1.out).mono ?_
      rintro e w2 ⟨rfl, f2⟩
      have H2 := Lib.hid (H1.out.fr f2)
      have F2 := Lib.hid (fr_nil F1.out f2)
      have X2 := Lib.hid (X1.out.fr f2 id)
      have Y2 := Lib.hid (Y1.out.fr f2 id)
      have xs2 := four_cells X2.out
      have hs2 := four_cells Y2.out
      clear f2 K1 xs1 hs1 H1 F1 X1 Y1
      go_wp2_with fail
      go_ret2
      rw [HS.out]
      exact ⟨rfl, F2.out⟩
    | true =>
      cases B2 with
      | false =>
        have HR := Lib.hid HL.out
        clear HL
        have hR : R = ([], 32) := HR.out
        have HS := Lib.hid hR
        clear hR HR
        go_enter Try.func25, Try.ntmps25
        go_wp2_with fail
        generalize (w.alloc _).alloc _ = w0 at *
        refine (K0 w0 H0.out).mono ?_
        rintro e w1 ⟨rfl, f1⟩
        have H1 := Lib.hid (H0.out.fr f1)
        have F1 := Lib.hid (fr_nil F0.out f1)
        have X1 := Lib.hid (X0.out.fr f1 id)
        have Y1 := Lib.hid (Y0.out.fr f1 id)
        have xs1 := four_cells X1.out
        have hs1 := four_cells Y1.out
        clear f1 K0 xs0 hs0 H0 F0 X0 Y0
        go_wp2_with fail
        refine (K1 w1 H1.out).mono ?_
        rintro e w2 ⟨rfl, f2⟩
        have H2 := Lib.hid (H1.out.fr f2)
        have F2 := Lib.hid (fr_nil F1.out f2)
        have X2 := Lib.hid (X1.out.fr f2 id)
        have Y2 := Lib.hid (Y1.out.fr f2 id)
        have xs2 := four_cells X2.out
        have hs2 := four_cells Y2.out
        clear f2 K1 xs1 hs1 H1 F1 X1 Y1
        go_wp2_with fail
        refine (K2 w2 H2.out).mono ?_
        rintro e w3 ⟨rfl, f3⟩
        have H3 := Lib.hid (H2.out.fr f3)
        have F3 := Lib.hid (fr_nil F2.out f3)
        have X3 := Lib.hid (X2.out.fr f3 id)
        have Y3 := Lib.hid (Y2.out.fr f3 id)
        have xs3 := four_cells X3.out
        have hs3 := four_cells Y3.out
        clear f3 K2 xs2 hs2 H2 F2 X2 Y2
        go_wp2_with fail
        go_ret2
        rw [HS.out]
        exact ⟨rfl, F3.out⟩
      | true =>
        cases B3 with
        | false =>
          have HR := Lib.hid HL.out
          clear HL
          have hR : R = ([], 32) := HR.out
          have HS := Lib.hid hR
          clear hR HR
          go_enter Try.func25, Try.ntmps25
          go_wp2_with fail
          generalize (w.alloc _).alloc _ = w0 at *
          refine (K0 w0 H0.out).mono ?_
          rintro e w1 ⟨rfl, f1⟩
          have H1 := Lib.hid (H0.out.fr f1)
          have F1 := Lib.hid (fr_nil F0.out f1)
          have X1 := Lib.hid (X0.out.fr f1 id)
          have Y1 := Lib.hid (Y0.out.fr f1 id)
          have xs1 := four_cells X1.out
          have hs1 := four_cells Y1.out
          clear f1 K0 xs0 hs0 H0 F0 X0 Y0
          go_wp2_with fail
          refine (K1 w1 H1.out).mono ?_
          rintro e w2 ⟨rfl, f2⟩
          have H2 := Lib.hid (H1.out.fr f2)
          have F2 := Lib.hid (fr_nil F1.out f2)
          have X2 := Lib.hid (X1.out.fr f2 id)
          have Y2 := Lib.hid (Y1.out.fr f2 id)
          have xs2 := four_cells X2.out
          have hs2 := four_cells Y2.out
          clear f2 K1 xs1 hs1 H1 F1 X1 Y1
          go_wp2_with fail
          refine (K2 w2 H2.out).mono ?_
          rintro e w3 ⟨rfl, f3⟩
          have H3 := Lib.hid (H2.out.fr f3)
          have F3 := Lib.hid (fr_nil F2.out f3)
          have X3 := Lib.hid (X2.out.fr f3 id)
          have Y3 := Lib.hid (Y2.out.fr f3 id)
          have xs3 := four_cells X3.out
          have hs3 := four_cells Y3.out
          clear f3 K2 xs2 hs2 H2 F2 X2 Y2
          go_wp2_with fail
          refine (K3 w3 H3.out).mono ?_
          rintro e w4 ⟨rfl, f4⟩
          have H4 := Lib.hid (H3.out.fr f4)
          have F4 := Lib.hid (fr_nil F3.out f4)
          have X4 := Lib.hid (X3.out.fr f4 id)
          have Y4 := Lib.hid (Y3.out.fr f4 id)
          have xs4 := four_cells X4.out
          have hs4 := four_cells Y4.out
          clear f4 K3 xs3 hs3 H3 F3 X3 Y3
          go_wp2_with fail
          go_ret2
          rw [HS.out]
          exact ⟨rfl, F4.out⟩
        | true =>
          have HR := Lib.hid HL.out
          clear HL
          have hR : R = (YB, 0) := HR.out
          have HS := Lib.hid hR
          clear hR HR
          go_enter Try.func25, Try.ntmps25
          go_wp2_with fail
          generalize (w.alloc _).alloc _ = w0 at *
          refine (K0 w0 H0.out).mono ?_
          rintro e w1 ⟨rfl, f1⟩
          have H1 := Lib.hid (H0.out.fr f1)
          have F1 := Lib.hid (fr_nil F0.out f1)
          have X1 := Lib.hid (X0.out.fr f1 id)
          have Y1 := Lib.hid (Y0.out.fr f1 id)
          have xs1 := four_cells X1.out
          have hs1 := four_cells Y1.out
          clear f1 K0 xs0 hs0 H0 F0 X0 Y0
          go_wp2_with fail
          refine (K1 w1 H1.out).mono ?_
          rintro e w2 ⟨rfl, f2⟩
          have H2 := Lib.hid (H1.out.fr f2)
          have F2 := Lib.hid (fr_nil F1.out f2)
          have X2 := Lib.hid (X1.out.fr f2 id)
          have Y2 := Lib.hid (Y1.out.fr f2 id)
          have xs2 := four_cells X2.out
          have hs2 := four_cells Y2.out
          clear f2 K1 xs1 hs1 H1 F1 X1 Y1
          go_wp2_with fail
          refine (K2 w2 H2.out).mono ?_
          rintro e w3 ⟨rfl, f3⟩
          have H3 := Lib.hid (H2.out.fr f3)
          have F3 := Lib.hid (fr_nil F2.out f3)
          have X3 := Lib.hid (X2.out.fr f3 id)
          have Y3 := Lib.hid (Y2.out.fr f3 id)
          have xs3 := four_cells X3.out
          have hs3 := four_cells Y3.out
          clear f3 K2 xs2 hs2 H2 F2 X2 Y2
          go_wp2_with fail
          refine (K3 w3 H3.out).mono ?_
          rintro e w4 ⟨rfl, f4⟩
          have H4 := Lib.hid (H3.out.fr f4)
          have F4 := Lib.hid (fr_nil F3.out f4)
          have X4 := Lib.hid (X3.out.fr f4 id)
          have Y4 := Lib.hid (Y3.out.fr f4 id)
          have xs4 := four_cells X4.out
          have hs4 := four_cells Y4.out
          clear f4 K3 xs3 hs3 H3 F3 X3 Y3
          go_wp2_with fail
          have H9 := H4.out.fr ((Fr.refl (fun _ => False) w4).alloc (.cells ([x.occ, x.pos, x.shut, x.lamp].map L3.val).toArray 25))
          refine (KB _ _ H9 (new_rd w4 _ _) ?_).mono ?_
          · intro y hy
            simp only [List.mem_cons, List.not_mem_nil, or_false] at hy
            rcases hy with rfl | rfl | rfl | rfl
            · exact s0 trivial
            · exact s1 trivial
            · exact s2 trivial
            · exact s3 trivial
          rintro e w9 ⟨rfl, f9⟩
          have F9 := fr_nil (F4.out.alloc _) f9
          clear f9 H9 H4 F4 X4 Y4 xs4 hs4 KB
          go_wp2_with fail
          go_ret2
          rw [HS.out]
          exact ⟨rfl, F9⟩
end Go.Proofs.Ytfmhfngilimhjaa.Te

namespace Go.Proofs.Ytfmhfngilimhjaa.Te
open Go.RowKit

theorem bytes_of_toList {s t : ByteArray} (h : s.toList = t.toList) : s = t := by
  rw [ByteArray.toList_eq, ByteArray.toList_eq] at h
  exact ByteArray.ext (Array.ext' h)
def Ods.New (x : Ods) (z : Nat) : Prop := (∀ q, blk x.pos.A = some q → z ≤ q) ∧ (∀ q, blk x.asp.A = some q → z ≤ q) ∧ ∀ q, blk x.shut.A = some q → z ≤ q
theorem keep4 {W : World} {b B i : Nat} {v a0 a1 a2 a3 : Value} (h : W.cell? ⟨b, i, none⟩ = some v) (hb : b ≠ B) : ((((W.setCell ⟨B, 0, none⟩ a0).setCell ⟨B, 1, none⟩ a1).setCell ⟨B, 2, none⟩ a2).setCell ⟨B, 3, none⟩ a3).cell? ⟨b, i, none⟩ = some v := by
  have hlt := World.block_lt_of_cell? _ _ h
  have f := ((((Fr.refl (fun k => k = B) W).setCell (p := ⟨B, 0, none⟩) (.inl rfl) a0).setCell (p := ⟨B, 1, none⟩) (.inl rfl) a1).setCell (p := ⟨B, 2, none⟩) (.inl rfl) a2).setCell (p := ⟨B, 3, none⟩) (.inl rfl) a3
  exact (f.cell (p := ⟨b, i, none⟩) hlt hb).trans h
theorem keep3 {W : World} {b B i : Nat} {v a0 a1 a2 : Value} (h : W.cell? ⟨b, i, none⟩ = some v) (hb : b ≠ B) : (((W.setCell ⟨B, 0, none⟩ a0).setCell ⟨B, 1, none⟩ a1).setCell ⟨B, 2, none⟩ a2).cell? ⟨b, i, none⟩ = some v := by
  have hlt := World.block_lt_of_cell? _ _ h
  have f := (((Fr.refl (fun k => k = B) W).setCell (p := ⟨B, 0, none⟩) (.inl rfl) a0).setCell (p := ⟨B, 1, none⟩) (.inl rfl) a1).setCell (p := ⟨B, 2, none⟩) (.inl rfl) a2
  exact (f.cell (p := ⟨b, i, none⟩) hlt hb).trans h
theorem rtake_ex (s : ByteArray) (a n : Nat) (w : World) (ha : a ≤ 70368744177665) (hn : n ≤ 17592186044416) :
    Calls Try.prog 75 #[.string s, .int .i64 (a : Int), .int .i64 (n : Int)] w fun e w' => ∃ (A : Option Addr) (l : List Int) (c : Nat), e = .returned (.slice A l.length c) ∧ l = cutL (bytesOf s) a n ∧ (L3.mk A l c).Ok w' ∧ (∀ q, blk A = some q → w.heap.size ≤ q ∧ q < w'.heap.size) ∧ Fr (fun _ => False) w w' :=
  (rtake_any s a n w ha hn).mono fun _ _ ⟨x, he, hl, hok, hn, f⟩ => ⟨x.A, x.l, x.c, he, hl, hok, hn, f⟩
set_option maxHeartbeats 2000000 in
theorem refrst_new {h : Sh} (hh : h.Ok) (s : ByteArray) (w : World) :
    Calls Try.prog 45 #[h.val, .string s] w fun e w' => ∃ x : Sta, e = .returned (.tuple #[x.val, .int .i64 (rstL h.hs (bytesOf s)).2]) ∧ x.st = (rstL h.hs (bytesOf s)).1 ∧ x.Ok w' ∧ x.New w.heap.size ∧ Fr (fun _ => False) w w' := by
  obtain ⟨⟨A1, n1, k1⟩, ⟨A2, n2, k2⟩, ⟨A3, n3, k3⟩, ⟨A4, n4, k4⟩⟩ := h
  obtain ⟨b1, b2, b3, b4⟩ := hh
  simp only at b1 b2 b3 b4
  have K1 := fun W => rtake_ex s 1 n1 W (by omega) b1
  have K2 := fun W => rtake_ex s (1 + n1) n2 W (by omega) b2
  have K3 := fun W => rtake_ex s (1 + n1 + n2) n3 W (by omega) b3
  have K4 := fun W => rtake_ex s (1 + n1 + n2 + n3) n4 W (by omega) b4
  simp only [Int.natCast_add, show ((1 : Nat) : Int) = 1 from rfl] at K1 K2 K3 K4
  have d1 : (n1 : Int) ≤ 17592186044416 := by omega
  have d2 : (n2 : Int) ≤ 17592186044416 := by omega
  have d3 : (n3 : Int) ≤ 17592186044416 := by omega
  have d4 : (n4 : Int) ≤ 17592186044416 := by omega
  have KS := fun (x : Sta) (W : World) (k : x.Ok W) => refstatus_any (h := ⟨⟨A1, n1, k1⟩, ⟨A2, n2, k2⟩, ⟨A3, n3, k3⟩, ⟨A4, n4, k4⟩⟩) k
  have hRR : rstL ⟨n1, n2, n3, n4⟩ (bytesOf s) = if stL ⟨n1, n2, n3, n4⟩ (St.cut ⟨n1, n2, n3, n4⟩ (bytesOf s)) = (bytesOf s, 0) then (St.cut ⟨n1, n2, n3, n4⟩ (bytesOf s), 0) else (St.nil, 3) := rfl
  have fa := (Fr.refl (fun _ => False) w).alloc (.cells #[.slice A1 n1 k1, .slice A2 n2 k2, .slice A3 n3 k3, .slice A4 n4 k4] 33)
  have fb := fa.alloc (.cells #[.slice none 0 0, .slice none 0 0, .slice none 0 0, .slice none 0 0] 65)
  have ih : Is ((w.alloc (.cells #[.slice A1 n1 k1, .slice A2 n2 k2, .slice A3 n3 k3, .slice A4 n4 k4] 33)).alloc (.cells #[.slice none 0 0, .slice none 0 0, .slice none 0 0, .slice none 0 0] 65)) w.heap.size 33 #[.slice A1 n1 k1, .slice A2 n2 k2, .slice A3 n3 k3, .slice A4 n4 k4] := (Is.new _ _ _).alloc _
  have i1 := Is.new (w.alloc (.cells #[.slice A1 n1 k1, .slice A2 n2 k2, .slice A3 n3 k3, .slice A4 n4 k4] 33)) 65 #[.slice none 0 0, .slice none 0 0, .slice none 0 0, .slice none 0 0]
  simp only [World.size_alloc] at i1
  have h0 := four_cells ih
  have HRR := Lib.hid hRR
  have FB := Lib.hid fb
  have IH := Lib.hid ih
  have I1 := Lib.hid i1
  clear hRR fa fb ih i1 b1 b2 b3 b4
  unfold Sh.val Sh.hs at *
  simp only at *
  generalize rstL ⟨n1, n2, n3, n4⟩ (bytesOf s) = RR at *
  go_enter Try.func45, Try.ntmps45
  go_wp2_with fail
  go_quiet (fail)
  generalize (w.alloc _).alloc _ = w0 at *
  have F0 := Lib.hid (FB.out.drewN nq)
  have J0 : Hid (Is (w0.drewN nq) (w.heap.size + 1) _ _) := Lib.hid (I1.out.fr ((Fr.refl (fun _ => False) w0).drewN nq) id)
  have Y0 := Lib.hid (IH.out.fr ((Fr.refl (fun _ => False) w0).drewN nq) id)
  clear FB I1 IH h0
  generalize w0.drewN nq = u0 at *
  go_wp2_with fail
  have hw1 : IntKind.i64.wrap (1 + (n1 : Int)) = 1 + (n1 : Int) := by rw [IntKind.wrap_i64]; omega
  have hw2 : IntKind.i64.wrap (1 + (n1 : Int) + (n2 : Int)) = 1 + (n1 : Int) + (n2 : Int) := by rw [IntKind.wrap_i64]; omega
  have hw3 : IntKind.i64.wrap (1 + (n1 : Int) + (n2 : Int) + (n3 : Int)) = 1 + (n1 : Int) + (n2 : Int) + (n3 : Int) := by rw [IntKind.wrap_i64]; omega
  have g0 : Fr (fun _ => False) u0 u0.drew := (Fr.refl _ u0).drew
  have sl : ∀ {U : World}, Fr (fun _ => False) u0 U → U.cell? ⟨w.heap.size, 3, none⟩ = some (.slice A4 n4 k4) := fun g => ((Y0.out.fr g id).cell 3).trans rfl
  have s0 := sl g0
  have zn := fun W => Is.new W 65 #[.slice none 0 0, .slice none 0 0, .slice none 0 0, .slice none 0 0]
  have al : ∀ {U : World}, Fr (fun _ => False) u0 U → ∀ O, (U.alloc O).cell? ⟨w.heap.size, 3, none⟩ = some (.slice A4 n4 k4) := fun g O => ((Y0.out.fr (g.alloc O) id).cell 3).trans rfl
  have nb : ∀ {U : World}, Fr (fun _ => False) u0 U → w.heap.size ≠ U.heap.size := fun g => by
    have h1 := Y0.out.lt
    have h2 := g.size
    omega
  have a0 := al g0
  have al0 : ∀ {U : World} (O : Obj), Fr (fun _ => False) U (U.alloc O) := fun O => (Fr.refl _ _).alloc O
  have gz : ∀ O, Fr (fun _ => False) u0 (u0.alloc O).drew := fun O => ((Fr.refl _ u0).alloc O).drew
  have a00 : ∀ O, (u0.alloc O).drew.cell? ⟨w.heap.size, 3, none⟩ = some (.slice A4 n4 k4) := fun O => sl (gz O)
  have nb0 : w.heap.size ≠ u0.heap.size := nb (Fr.refl _ u0)
  go_cut [9] from 21 (fun v9 wx => ∃ (bs : Nat) (x : Sta), v9 = .pointer (some ⟨bs, 0, none⟩) ∧ u0.heap.size ≤ bs ∧ Is wx bs 65 x.cells.toArray ∧ x.st = St.cut ⟨n1, n2, n3, n4⟩ (bytesOf s) ∧ x.Ok wx ∧ x.New u0.heap.size ∧ Fr (fun _ => False) u0 wx)
  case first =>
    go_region_held3 (fun Wx => Wx.cell? ⟨w.heap.size, 3, none⟩ = some (.slice A4 n4 k4)) (first | with_reducible exact s0 | with_reducible exact s1 | with_reducible exact s2 | with_reducible exact s3 | with_reducible exact s4 | with_reducible exact a0 _ | with_reducible exact a1 _ | with_reducible exact a2 _ | with_reducible exact a3 _ | with_reducible exact a4 _ | with_reducible exact a00 _ | with_reducible exact keep4 s4 nb0 | with_reducible exact keep4 s4 nb1 | with_reducible exact keep4 s4 nb2 | with_reducible exact keep4 s4 nb3 | with_reducible exact keep4 s4 nb4) (first | (go_at_call 75; with_reducible refine (K4 _).mono ?_; rintro e u4 ⟨B4, l4, c4, rfl, e4, o4, m4, f4⟩; have E4 := Lib.hid e4; have O4 := Lib.hid o4; have N4 := Lib.hid m4; clear e4 o4 m4; have H4 : Hid (Fr (fun _ => False) u3 u4) := Lib.hid (by first | with_reducible exact f4 | with_reducible exact fr_nil (al0 _) f4); have g4 : Fr (fun _ => False) u0 u4 := (by first | with_reducible exact fr_nil g3 f4 | with_reducible exact fr_nil (g3.alloc _) f4); have s4 := sl g4; have a4 := al g4; have nb4 := nb g4; (first | (with_reducible have y4 := y3.fr f4 id) | (with_reducible have y4 := (zn u3).fr f4 id) | skip); (first | (obtain ⟨yc0, yc1, yc2, yc3⟩ := four_cells y4; have yz0 := y4.frozen 0; have yz1 := y4.frozen 1; have yz2 := y4.frozen 2; have yz3 := y4.frozen 3) | skip)) | (go_at_call 75; with_reducible refine (K3 _).mono ?_; rintro e u3 ⟨B3, l3, c3, rfl, e3, o3, m3, f3⟩; have E3 := Lib.hid e3; have O3 := Lib.hid o3; have N3 := Lib.hid m3; clear e3 o3 m3; have H3 : Hid (Fr (fun _ => False) u2 u3) := Lib.hid (by first | with_reducible exact f3 | with_reducible exact fr_nil (al0 _) f3); have g3 : Fr (fun _ => False) u0 u3 := (by first | with_reducible exact fr_nil g2 f3 | with_reducible exact fr_nil (g2.alloc _) f3); have s3 := sl g3; have a3 := al g3; have nb3 := nb g3; (first | (with_reducible have y3 := y2.fr f3 id) | (with_reducible have y3 := (zn u2).fr f3 id) | skip)) | (go_at_call 75; with_reducible refine (K2 _).mono ?_; rintro e u2 ⟨B2, l2, c2, rfl, e2, o2, m2, f2⟩; have E2 := Lib.hid e2; have O2 := Lib.hid o2; have N2 := Lib.hid m2; clear e2 o2 m2; have H2 : Hid (Fr (fun _ => False) u1 u2) := Lib.hid (by first | with_reducible exact f2 | with_reducible exact fr_nil (al0 _) f2); have g2 : Fr (fun _ => False) u0 u2 := (by first | with_reducible exact fr_nil g1 f2 | with_reducible exact fr_nil (g1.alloc _) f2); have s2 := sl g2; have a2 := al g2; have nb2 := nb g2; (first | (with_reducible have y2 := y1.fr f2 id) | (with_reducible have y2 := (zn u1).fr f2 id) | skip)) | (go_at_call 75; with_reducible refine (K1 _).mono ?_; rintro e u1 ⟨B1, l1, c1, rfl, e1, o1, m1, f1⟩; have E1 := Lib.hid e1; have O1 := Lib.hid o1; have N1 := Lib.hid m1; clear e1 o1 m1; have H1 : Hid (Fr (fun _ => False) u0 u1) := Lib.hid (by first | with_reducible exact f1 | with_reducible exact fr_nil (al0 _) f1 | with_reducible exact fr_nil g0 f1 | with_reducible exact fr_nil (gz _) f1); have g1 : Fr (fun _ => False) u0 u1 := (by first | with_reducible exact fr_nil g0 f1 | with_reducible exact fr_nil (g0.alloc _) f1 | with_reducible exact fr_nil (gz _) f1); have s1 := sl g1; have a1 := al g1; have nb1 := nb g1; (first | (with_reducible have y1 := (zn u0).drew.fr f1 id) | skip)))
    · go_wp2_with fail
      go_meet
      case rel =>
        exact ⟨u4.heap.size, ⟨⟨B1, l1, c1⟩, ⟨B2, l2, c2⟩, ⟨B3, l3, c3⟩, ⟨B4, l4, c4⟩⟩, rfl, g4.size, Is.new _ _ _, by unfold Sta.st St.cut; rw [E1.out, E2.out, E3.out, E4.out], ⟨(((O1.out.fr H2.out fun _ _ => id).fr H3.out fun _ _ => id).fr H4.out fun _ _ => id).fr (al0 _) fun _ _ => id, ((O2.out.fr H3.out fun _ _ => id).fr H4.out fun _ _ => id).fr (al0 _) fun _ _ => id, (O3.out.fr H4.out fun _ _ => id).fr (al0 _) fun _ _ => id, O4.out.fr (al0 _) fun _ _ => id⟩, ⟨fun q hq => by have n := (N1.out q hq).1; have := g0.size; (try simp at n); omega, fun q hq => by have n := (N2.out q hq).1; have := g1.size; (try simp at n); omega, fun q hq => by have n := (N3.out q hq).1; have := g2.size; (try simp at n); omega, fun q hq => by have n := (N4.out q hq).1; have := g3.size; (try simp at n); omega⟩, g4.alloc _⟩
    · go_wp2_with fail
      go_meet
      case rel =>
        have z1 := H1.out.size
        have z2 := H2.out.size
        have z3 := H3.out.size
        have z4 := H4.out.size
        have yl := y4.lt
        have fs := (((((Fr.refl (fun j => j = u3.heap.size) u4).setCell (p := ⟨u3.heap.size, 0, none⟩) (.inl rfl) (.slice B1 l1.length c1)).setCell (p := ⟨u3.heap.size, 1, none⟩) (.inl rfl) (.slice B2 l2.length c2)).setCell (p := ⟨u3.heap.size, 2, none⟩) (.inl rfl) (.slice B3 l3.length c3)).setCell (p := ⟨u3.heap.size, 3, none⟩) (.inl rfl) (.slice B4 l4.length c4))
        refine ⟨u3.heap.size, ⟨⟨B1, l1, c1⟩, ⟨B2, l2, c2⟩, ⟨B3, l3, c3⟩, ⟨B4, l4, c4⟩⟩, rfl, by omega, ((((y4.set 0 _).set 1 _).set 2 _).set 3 _), by unfold Sta.st St.cut; rw [E1.out, E2.out, E3.out, E4.out], ⟨(((O1.out.fr H2.out fun _ _ => id).fr H3.out fun _ _ => id).fr H4.out fun _ _ => id).fr fs ?_, ((O2.out.fr H3.out fun _ _ => id).fr H4.out fun _ _ => id).fr fs ?_, (O3.out.fr H4.out fun _ _ => id).fr fs ?_, O4.out.fr fs ?_⟩, ⟨fun q hq => by have n := (N1.out q hq).1; have := g0.size; (try simp at n); omega, fun q hq => by have n := (N2.out q hq).1; have := g1.size; (try simp at n); omega, fun q hq => by have n := (N3.out q hq).1; have := g2.size; (try simp at n); omega, fun q hq => by have n := (N4.out q hq).1; have := g3.size; (try simp at n); omega⟩, g4.trans fs fun j hj e => by omega⟩
        · exact fun q hq e => by have l := (N1.out q hq).2; have n := (N1.out q hq).1; (try simp at n); omega
        · exact fun q hq e => by have l := (N2.out q hq).2; have n := (N2.out q hq).1; (try simp at n); omega
        · exact fun q hq e => by have l := (N3.out q hq).2; have n := (N3.out q hq).1; (try simp at n); omega
        · exact fun q hq e => by have l := (N4.out q hq).2; have n := (N4.out q hq).1; (try simp at n); omega
    · go_wp2_with fail
      go_meet
      case rel =>
        have z1 := H1.out.size
        have z2 := H2.out.size
        have z3 := H3.out.size
        have z4 := H4.out.size
        have yl := y3.lt
        have fs := (((((Fr.refl (fun j => j = u2.heap.size) u4).setCell (p := ⟨u2.heap.size, 0, none⟩) (.inl rfl) (.slice B1 l1.length c1)).setCell (p := ⟨u2.heap.size, 1, none⟩) (.inl rfl) (.slice B2 l2.length c2)).setCell (p := ⟨u2.heap.size, 2, none⟩) (.inl rfl) (.slice B3 l3.length c3)).setCell (p := ⟨u2.heap.size, 3, none⟩) (.inl rfl) (.slice B4 l4.length c4))
        refine ⟨u2.heap.size, ⟨⟨B1, l1, c1⟩, ⟨B2, l2, c2⟩, ⟨B3, l3, c3⟩, ⟨B4, l4, c4⟩⟩, rfl, by omega, ((((y4.set 0 _).set 1 _).set 2 _).set 3 _), by unfold Sta.st St.cut; rw [E1.out, E2.out, E3.out, E4.out], ⟨(((O1.out.fr H2.out fun _ _ => id).fr H3.out fun _ _ => id).fr H4.out fun _ _ => id).fr fs ?_, ((O2.out.fr H3.out fun _ _ => id).fr H4.out fun _ _ => id).fr fs ?_, (O3.out.fr H4.out fun _ _ => id).fr fs ?_, O4.out.fr fs ?_⟩, ⟨fun q hq => by have n := (N1.out q hq).1; have := g0.size; (try simp at n); omega, fun q hq => by have n := (N2.out q hq).1; have := g1.size; (try simp at n); omega, fun q hq => by have n := (N3.out q hq).1; have := g2.size; (try simp at n); omega, fun q hq => by have n := (N4.out q hq).1; have := g3.size; (try simp at n); omega⟩, g4.trans fs fun j hj e => by omega⟩
        · exact fun q hq e => by have l := (N1.out q hq).2; have n := (N1.out q hq).1; (try simp at n); omega
        · exact fun q hq e => by have l := (N2.out q hq).2; have n := (N2.out q hq).1; (try simp at n); omega
        · exact fun q hq e => by have l := (N3.out q hq).2; have n := (N3.out q hq).1; (try simp at n); omega
        · exact fun q hq e => by have l := (N4.out q hq).2; have n := (N4.out q hq).1; (try simp at n); omega
    · go_wp2_with fail
      go_meet
      case rel =>
        have z1 := H1.out.size
        have z2 := H2.out.size
        have z3 := H3.out.size
        have z4 := H4.out.size
        have yl := y2.lt
        have fs := (((((Fr.refl (fun j => j = u1.heap.size) u4).setCell (p := ⟨u1.heap.size, 0, none⟩) (.inl rfl) (.slice B1 l1.length c1)).setCell (p := ⟨u1.heap.size, 1, none⟩) (.inl rfl) (.slice B2 l2.length c2)).setCell (p := ⟨u1.heap.size, 2, none⟩) (.inl rfl) (.slice B3 l3.length c3)).setCell (p := ⟨u1.heap.size, 3, none⟩) (.inl rfl) (.slice B4 l4.length c4))
        refine ⟨u1.heap.size, ⟨⟨B1, l1, c1⟩, ⟨B2, l2, c2⟩, ⟨B3, l3, c3⟩, ⟨B4, l4, c4⟩⟩, rfl, by omega, ((((y4.set 0 _).set 1 _).set 2 _).set 3 _), by unfold Sta.st St.cut; rw [E1.out, E2.out, E3.out, E4.out], ⟨(((O1.out.fr H2.out fun _ _ => id).fr H3.out fun _ _ => id).fr H4.out fun _ _ => id).fr fs ?_, ((O2.out.fr H3.out fun _ _ => id).fr H4.out fun _ _ => id).fr fs ?_, (O3.out.fr H4.out fun _ _ => id).fr fs ?_, O4.out.fr fs ?_⟩, ⟨fun q hq => by have n := (N1.out q hq).1; have := g0.size; (try simp at n); omega, fun q hq => by have n := (N2.out q hq).1; have := g1.size; (try simp at n); omega, fun q hq => by have n := (N3.out q hq).1; have := g2.size; (try simp at n); omega, fun q hq => by have n := (N4.out q hq).1; have := g3.size; (try simp at n); omega⟩, g4.trans fs fun j hj e => by omega⟩
        · exact fun q hq e => by have l := (N1.out q hq).2; have n := (N1.out q hq).1; (try simp at n); omega
        · exact fun q hq e => by have l := (N2.out q hq).2; have n := (N2.out q hq).1; (try simp at n); omega
        · exact fun q hq e => by have l := (N3.out q hq).2; have n := (N3.out q hq).1; (try simp at n); omega
        · exact fun q hq e => by have l := (N4.out q hq).2; have n := (N4.out q hq).1; (try simp at n); omega
    · go_wp2_with fail
      go_meet
      case rel =>
        have z1 := H1.out.size
        have z2 := H2.out.size
        have z3 := H3.out.size
        have z4 := H4.out.size
        have yl := y1.lt
        have fs := (((((Fr.refl (fun j => j = u0.heap.size) u4).setCell (p := ⟨u0.heap.size, 0, none⟩) (.inl rfl) (.slice B1 l1.length c1)).setCell (p := ⟨u0.heap.size, 1, none⟩) (.inl rfl) (.slice B2 l2.length c2)).setCell (p := ⟨u0.heap.size, 2, none⟩) (.inl rfl) (.slice B3 l3.length c3)).setCell (p := ⟨u0.heap.size, 3, none⟩) (.inl rfl) (.slice B4 l4.length c4))
        refine ⟨u0.heap.size, ⟨⟨B1, l1, c1⟩, ⟨B2, l2, c2⟩, ⟨B3, l3, c3⟩, ⟨B4, l4, c4⟩⟩, rfl, by omega, ((((y4.set 0 _).set 1 _).set 2 _).set 3 _), by unfold Sta.st St.cut; rw [E1.out, E2.out, E3.out, E4.out], ⟨(((O1.out.fr H2.out fun _ _ => id).fr H3.out fun _ _ => id).fr H4.out fun _ _ => id).fr fs ?_, ((O2.out.fr H3.out fun _ _ => id).fr H4.out fun _ _ => id).fr fs ?_, (O3.out.fr H4.out fun _ _ => id).fr fs ?_, O4.out.fr fs ?_⟩, ⟨fun q hq => by have n := (N1.out q hq).1; have := g0.size; (try simp at n); omega, fun q hq => by have n := (N2.out q hq).1; have := g1.size; (try simp at n); omega, fun q hq => by have n := (N3.out q hq).1; have := g2.size; (try simp at n); omega, fun q hq => by have n := (N4.out q hq).1; have := g3.size; (try simp at n); omega⟩, g4.trans fs fun j hj e => by omega⟩
        · exact fun q hq e => by have l := (N1.out q hq).2; have n := (N1.out q hq).1; (try simp at n); omega
        · exact fun q hq e => by have l := (N2.out q hq).2; have n := (N2.out q hq).1; (try simp at n); omega
        · exact fun q hq e => by have l := (N3.out q hq).2; have n := (N3.out q hq).1; (try simp at n); omega
        · exact fun q hq e => by have l := (N4.out q hq).2; have n := (N4.out q hq).1; (try simp at n); omega
  case rest =>
    clear K1 K2 K3 K4 hw1 hw2 hw3 g0 s0 sl zn al nb al0 gz a00 a0 nb0 d1 d2 d3 d4
    obtain ⟨bs, ⟨⟨Xa, la, xa⟩, ⟨Xb, lb, xb⟩, ⟨Xc, lc, xc⟩, ⟨Xd, ld, xd⟩⟩, rfl, hbs, ix, hst, ok, hnew, f⟩ := hcut
    have KX := KS _ wc ok
    rw [hst] at KX
    generalize hR2 : stL ⟨n1, n2, n3, n4⟩ (St.cut ⟨n1, n2, n3, n4⟩ (bytesOf s)) = R2 at *
    obtain ⟨y2, e2⟩ := R2
    simp only at KX
    have hby : bytesOf ⟨y2.toArray⟩ = y2 := rfl
    generalize (⟨y2.toArray⟩ : ByteArray) = tt at *
    have HBY := Lib.hid hby
    have HST := Lib.hid hst
    have HIX := Lib.hid ix
    have HOK := Lib.hid ok
    have hJ := J0.out.fr f id
    have hY := Y0.out.fr f id
    have hF := fr_nil F0.out f
    have HJ := Lib.hid hJ
    have HF := Lib.hid hF
    obtain ⟨h0, h1, h2, h3⟩ := four_cells hY
    have k0 : wc.cell? ⟨bs, 0, none⟩ = some (.slice Xa la.length xa) := (ix.cell 0).trans rfl
    have k1 : wc.cell? ⟨bs, 1, none⟩ = some (.slice Xb lb.length xb) := (ix.cell 1).trans rfl
    have k2 : wc.cell? ⟨bs, 2, none⟩ = some (.slice Xc lc.length xc) := (ix.cell 2).trans rfl
    have k3 : wc.cell? ⟨bs, 3, none⟩ = some (.slice Xd ld.length xd) := (ix.cell 3).trans rfl
    have hbl : w.heap.size + 1 < u0.heap.size := J0.out.lt
    have HNEW : Hid (Sta.New ⟨⟨Xa, la, xa⟩, ⟨Xb, lb, xb⟩, ⟨Xc, lc, xc⟩, ⟨Xd, ld, xd⟩⟩ w.heap.size) := Lib.hid ⟨fun q hq => Nat.le_trans F0.out.size (hnew.1 q hq), fun q hq => Nat.le_trans F0.out.size (hnew.2.1 q hq), fun q hq => Nat.le_trans F0.out.size (hnew.2.2.1 q hq), fun q hq => Nat.le_trans F0.out.size (hnew.2.2.2 q hq)⟩
    have HLT : Hid (∀ x : L3, x ∈ [L3.mk Xa la xa, L3.mk Xb lb xb, L3.mk Xc lc xc, L3.mk Xd ld xd] → ∀ q, blk x.A = some q → q ≠ w.heap.size + 1) := Lib.hid (by
      obtain ⟨v0, v1, v2, v3⟩ := hnew
      intro x hx q hq e
      simp only [List.mem_cons, List.not_mem_nil, or_false] at hx
      rcases hx with rfl | rfl | rfl | rfl
      · have := v0 q hq
        omega
      · have := v1 q hq
        omega
      · have := v2 q hq
        omega
      · have := v3 q hq
        omega)
    clear hst ix ok hJ hY hF hby F0 J0 Y0 f KS hR2 hnew
    unfold Sta.val at KX
    simp only at KX
    go_wp2_with fail
    refine KX.mono ?_
    rintro e w9 ⟨rfl, f9⟩
    clear k0 k1 k2 k3 h0 h1 h2 h3
    have j9 := HJ.out.fr f9 id
    have i9 := HIX.out.fr f9 id
    have k0 : w9.cell? ⟨bs, 0, none⟩ = some (.slice Xa la.length xa) := (i9.cell 0).trans rfl
    have k1 : w9.cell? ⟨bs, 1, none⟩ = some (.slice Xb lb.length xb) := (i9.cell 1).trans rfl
    have k2 : w9.cell? ⟨bs, 2, none⟩ = some (.slice Xc lc.length xc) := (i9.cell 2).trans rfl
    have k3 : w9.cell? ⟨bs, 3, none⟩ = some (.slice Xd ld.length xd) := (i9.cell 3).trans rfl
    have n0 := four_cells j9
    have z0 := j9.frozen 0
    have z1 := j9.frozen 1
    have z2 := j9.frozen 2
    have z3 := j9.frozen 3
    have HF9 := Lib.hid (fr_nil HF.out f9)
    have hok9 : ∀ (W : World), Fr (fun k => k = w.heap.size + 1) w9 W → Sta.Ok W ⟨⟨Xa, la, xa⟩, ⟨Xb, lb, xb⟩, ⟨Xc, lc, xc⟩, ⟨Xd, ld, xd⟩⟩ := fun W F => by
      have o := HOK.out.fr f9
      exact ⟨o.occ.fr F fun q hq => HLT.out _ (by simp) q hq, o.pos.fr F fun q hq => HLT.out _ (by simp) q hq, o.shut.fr F fun q hq => HLT.out _ (by simp) q hq, o.lamp.fr F fun q hq => HLT.out _ (by simp) q hq⟩
    have HOK9 := Lib.hid hok9
    clear hok9 f9 i9 HJ HF HIX HOK hbl hbs
    by_cases he : e2 = 0
    · by_cases ht : tt = s
      · have b1 : (e2 != 0) = false := by simp [he]
        have b2 : (tt.toList == s.toList) = true := by rw [ht]; simp
        have hR : RR = (St.cut ⟨n1, n2, n3, n4⟩ (bytesOf s), 0) := by rw [HRR.out, if_pos (by rw [he, ← HBY.out, ht])]
        have HR := Lib.hid hR
        clear hR he ht HRR HBY
        go_wp2_with fail
        have i7 := ((((j9.set 0 (.slice Xa la.length xa)).set 1 (.slice Xb lb.length xb)).set 2 (.slice Xc lc.length xc)).set 3 (.slice Xd ld.length xd))
        have f7 := (((((Fr.refl (fun k => k = w.heap.size + 1) w9).setCell (p := ⟨w.heap.size + 1, 0, none⟩) (.inl rfl) (.slice Xa la.length xa)).setCell (p := ⟨w.heap.size + 1, 1, none⟩) (.inl rfl) (.slice Xb lb.length xb)).setCell (p := ⟨w.heap.size + 1, 2, none⟩) (.inl rfl) (.slice Xc lc.length xc)).setCell (p := ⟨w.heap.size + 1, 3, none⟩) (.inl rfl) (.slice Xd ld.length xd))
        clear n0 z0 z1 z2 z3 j9 k0 k1 k2 k3
        generalize ((((w9.setCell ⟨w.heap.size + 1, 0, none⟩ (.slice Xa la.length xa)).setCell ⟨w.heap.size + 1, 1, none⟩ (.slice Xb lb.length xb)).setCell ⟨w.heap.size + 1, 2, none⟩ (.slice Xc lc.length xc)).setCell ⟨w.heap.size + 1, 3, none⟩ (.slice Xd ld.length xd)) = W at *
        obtain ⟨m0, m1, m2, m3⟩ := four_cells i7
        refine bodyPost_ret (v := .tuple #[.agg #[.slice Xa la.length xa, .slice Xb lb.length xb, .slice Xc lc.length xc, .slice Xd ld.length xd], .int .i64 0]) (by simp [results, Try.results45, go_sem, m0, m1, m2, m3]) rfl ⟨⟨⟨Xa, la, xa⟩, ⟨Xb, lb, xb⟩, ⟨Xc, lc, xc⟩, ⟨Xd, ld, xd⟩⟩, ?_, ?_, HOK9.out _ f7, HNEW.out, HF9.out.trans f7 fun j hj e => by omega⟩
        · rw [HR.out]; rfl
        · rw [HR.out]; exact HST.out
      · have b1 : (e2 != 0) = false := by simp [he]
        have b2 : (tt.toList == s.toList) = false := by
          rw [beq_eq_false_iff_ne]
          exact fun e => ht (bytes_of_toList e)
        have hR : RR = (St.nil, 3) := by
          rw [HRR.out, if_neg]
          intro e
          injection e with e _
          exact ht (bytesOf_inj (HBY.out.trans e))
        have HR := Lib.hid hR
        clear hR he ht HRR HBY
        go_wp2_with fail
        have i7 := ((((j9.set 0 (.slice none 0 0)).set 1 (.slice none 0 0)).set 2 (.slice none 0 0)).set 3 (.slice none 0 0))
        have f7 := (((((Fr.refl (fun k => k = w.heap.size + 1) w9).setCell (p := ⟨w.heap.size + 1, 0, none⟩) (.inl rfl) (.slice none 0 0)).setCell (p := ⟨w.heap.size + 1, 1, none⟩) (.inl rfl) (.slice none 0 0)).setCell (p := ⟨w.heap.size + 1, 2, none⟩) (.inl rfl) (.slice none 0 0)).setCell (p := ⟨w.heap.size + 1, 3, none⟩) (.inl rfl) (.slice none 0 0))
        clear n0 z0 z1 z2 z3 j9 k0 k1 k2 k3
        generalize ((((w9.setCell ⟨w.heap.size + 1, 0, none⟩ (.slice none 0 0)).setCell ⟨w.heap.size + 1, 1, none⟩ (.slice none 0 0)).setCell ⟨w.heap.size + 1, 2, none⟩ (.slice none 0 0)).setCell ⟨w.heap.size + 1, 3, none⟩ (.slice none 0 0)) = W at *
        obtain ⟨m0, m1, m2, m3⟩ := four_cells i7
        refine bodyPost_ret (v := .tuple #[.agg #[.slice none 0 0, .slice none 0 0, .slice none 0 0, .slice none 0 0], .int .i64 3]) (by simp [results, Try.results45, go_sem, m0, m1, m2, m3]) rfl ⟨nilSta, ?_, ?_, nilSta_ok _, nilSta_new _, HF9.out.trans f7 fun j hj e => by omega⟩
        · rw [HR.out]; rfl
        · rw [HR.out]; rfl
    · have b1 : (e2 != 0) = true := by simpa using he
      have hR : RR = (St.nil, 3) := by
        rw [HRR.out, if_neg]
        intro e
        injection e with _ e
        exact he e
      have HR := Lib.hid hR
      clear hR he HRR HBY
      go_wp2_with fail
      have i7 := ((((j9.set 0 (.slice none 0 0)).set 1 (.slice none 0 0)).set 2 (.slice none 0 0)).set 3 (.slice none 0 0))
      have f7 := (((((Fr.refl (fun k => k = w.heap.size + 1) w9).setCell (p := ⟨w.heap.size + 1, 0, none⟩) (.inl rfl) (.slice none 0 0)).setCell (p := ⟨w.heap.size + 1, 1, none⟩) (.inl rfl) (.slice none 0 0)).setCell (p := ⟨w.heap.size + 1, 2, none⟩) (.inl rfl) (.slice none 0 0)).setCell (p := ⟨w.heap.size + 1, 3, none⟩) (.inl rfl) (.slice none 0 0))
      clear n0 z0 z1 z2 z3 j9 k0 k1 k2 k3
      generalize ((((w9.setCell ⟨w.heap.size + 1, 0, none⟩ (.slice none 0 0)).setCell ⟨w.heap.size + 1, 1, none⟩ (.slice none 0 0)).setCell ⟨w.heap.size + 1, 2, none⟩ (.slice none 0 0)).setCell ⟨w.heap.size + 1, 3, none⟩ (.slice none 0 0)) = W at *
      obtain ⟨m0, m1, m2, m3⟩ := four_cells i7
      refine bodyPost_ret (v := .tuple #[.agg #[.slice none 0 0, .slice none 0 0, .slice none 0 0, .slice none 0 0], .int .i64 3]) (by simp [results, Try.results45, go_sem, m0, m1, m2, m3]) rfl ⟨nilSta, ?_, ?_, nilSta_ok _, nilSta_new _, HF9.out.trans f7 fun j hj e => by omega⟩
      · rw [HR.out]; rfl
      · rw [HR.out]; rfl
theorem refrst_any {h : Sh} (hh : h.Ok) (s : ByteArray) (w : World) :
    Calls Try.prog 45 #[h.val, .string s] w fun e w' => ∃ x : Sta, e = .returned (.tuple #[x.val, .int .i64 (rstL h.hs (bytesOf s)).2]) ∧ x.st = (rstL h.hs (bytesOf s)).1 ∧ x.Ok w' ∧ Fr (fun _ => False) w w' :=
  (refrst_new hh s w).mono fun _ _ ⟨x, he, hs, hok, _, f⟩ => ⟨x, he, hs, hok, f⟩
end Go.Proofs.Ytfmhfngilimhjaa.Te


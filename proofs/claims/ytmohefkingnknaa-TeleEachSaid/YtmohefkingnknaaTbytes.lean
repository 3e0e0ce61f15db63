/- The contract of the document's own bytes (package ballastref10): a kind, and lists of bytes. -/
import Derived.Test.YtmohefkingnknaaTtake
namespace Go.Proofs.Ytmohefkingnknaa.Te
open Go.RowKit

def bytesX (ls : List L3) : List UInt8 := ls.flatMap fun x => byL x.l
theorem bytesX_succ {ls : List L3} {k : Nat} (h : k < ls.length) : bytesX (ls.take (k + 1)) = bytesX (ls.take k) ++ byL ls[k].l := by
  rw [List.take_succ_eq_append_getElem h]
  unfold bytesX
  rw [List.flatMap_append]
  simp
theorem bytesX_le (ls : List L3) (h : ∀ x ∈ ls, x.l.length ≤ 17592186044416) : ∀ k, k ≤ ls.length → (bytesX (ls.take k)).length ≤ k * 17592186044416
  | 0, _ => by simp [bytesX]
  | k + 1, hk => by
    have ih := bytesX_le ls h k (by omega)
    have h1 := h ls[k] (List.getElem_mem _)
    rw [bytesX_succ (by omega), List.length_append, byL_length]
    omega
theorem byL_succ {l : List Int} {k : Nat} (h : k < l.length) : byL (l.take (k + 1)) = byL (l.take k) ++ [UInt8.ofNat l[k].toNat] := by
  rw [List.take_succ_eq_append_getElem h, byL_append]
  rfl
theorem B_of {x : Int} (h0 : 0 ≤ x) (h1 : x ≤ 255) : B (UInt8.ofNat x.toNat) = .int .u8 x := by
  unfold B
  rw [UInt8.toNat_ofNat']
  congr 1
  omega
theorem rd_l3 {w : World} {A : Option Addr} {ls : List L3} (h : Rd w A (ls.map L3.val)) {j : Nat} (hj : j < ls.length) : ∃ g o, A = some ⟨g, o, none⟩ ∧ g < w.heap.size ∧ w.cell? ⟨g, o + j, none⟩ = some (.slice ls[j].A ls[j].l.length ls[j].c) := by
  have h0 : (ls.map L3.val)[j]? = some ls[j].val := by rw [List.getElem?_map, List.getElem?_eq_getElem hj]; rfl
  obtain ⟨g, o, rfl, hg, hc⟩ := h (by have := (List.getElem?_eq_some_iff.1 h0).1; omega)
  exact ⟨g, o, rfl, hg, hc _ _ h0⟩

set_option maxRecDepth 100000 in
set_option maxHeartbeats 1000000 in
theorem bytes_any {A : Option Addr} {c : Nat} {ls : List L3} (w : World) (kd : Nat) (hk : kd ≤ 255) (h : Rd w A (ls.map L3.val)) (hok : ∀ x ∈ ls, x.Ok w) (hsm : ∀ x ∈ ls, ∀ y ∈ x.l, 0 ≤ y ∧ y ≤ 255) (hal : ls.length ≤ 4) :
    Calls Try.prog 29 #[.int .i64 (kd : Int), .slice A ls.length c] w fun e w' => e = .returned (.string ⟨(UInt8.ofNat kd :: bytesX ls).toArray⟩) ∧ Fr (fun _ => False) w w' := by
  obtain ⟨i0, hi0, hz0, hz1, hz2⟩ := info_parts Try.infoB
  have hle := bytesX_le ls fun x hx => (hok x hx).le
  have HLE := Lib.hid hle
  have HOK := Lib.hid hok
  have HSM := Lib.hid hsm
  clear hle hok hsm
  have hkw : IntKind.u8.wrap (kd : Int) = (kd : Int) := by rw [IntKind.wrap_u8]; omega
  have hown0 : (w.alloc (.cells #[.int .u8 (kd : Int)] 5)).ownsRow w.heap.size 5 1 (.slice (some ⟨w.heap.size, 0, none⟩) 1 1) 1 ([UInt8.ofNat kd].map B) := by
    have e : [UInt8.ofNat kd].map B = [.int .u8 (kd : Int)] := by
      rw [List.map_singleton]
      congr 1
      have := B_of (x := (kd : Int)) (by omega) (by omega)
      rwa [Int.toNat_natCast] at this
    rw [e]
    exact ⟨by simp, .inr ⟨w.heap.size, 1, #[.int .u8 (kd : Int)], rfl, Nat.le_refl _, heap_alloc_new w _, Nat.le_refl _, by unfold maxLen; omega, by simp, by simp⟩⟩
  have f0 := (Fr.refl (fun _ => False) w).alloc (.cells #[.int .u8 (kd : Int)] 5)
  have HOWN0 := Lib.hid hown0
  clear hown0
  go_enter Try.func29, Try.ntmps29
  go_wp2_with fail
  go_loopw [5, 15] (fun v5 v15 wr => ∃ (i : Nat) (L : List UInt8) (A : Option Addr) (c : Nat), i ≤ ls.length ∧ v15 = .int .i64 (i : Nat) ∧ L = UInt8.ofNat kd :: bytesX (ls.take i) ∧ v5 = .slice A L.length c ∧ wr.ownsRow w.heap.size 5 1 (.slice A L.length c) L.length (L.map B) ∧ Fr (fun _ => False) w wr) (fun _ i _ => ls.length - (intOf i).toNat)
  case atStart => exact ⟨0, [UInt8.ofNat kd], some ⟨w.heap.size, 0, none⟩, 1, Nat.zero_le _, rfl, rfl, rfl, HOWN0.out, f0⟩
  case round =>
    clear HOWN0 f0
    obtain ⟨i, L, A5, c5, hi, rfl, hL, rfl, hown, F⟩ := hrel
    by_cases hlt : i < ls.length
    · obtain ⟨g, o, rfl, _, q0⟩ := rd_l3 (h.fr F fun _ _ => id) hlt
      have ok := HOK.out _ (List.getElem_mem hlt)
      have sm := HSM.out _ (List.getElem_mem hlt)
      have hsc := bytesX_succ hlt
      have hLl : L.length = 1 + (bytesX (ls.take i)).length := by rw [hL, List.length_cons]; omega
      have hb1 := HLE.out i hi
      have hb2 : L.length ≤ 1 + 3 * 17592186044416 := by omega
      have hLx : UInt8.ofNat kd :: bytesX (ls.take (i + 1)) = L ++ byL ls[i].l := by rw [hsc, hL]; rfl
      have HLX := Lib.hid hLx
      have HB2 := Lib.hid hb2
      clear hsc hLl hb1 hb2 hLx hL
      generalize ls[i] = X at *
      obtain ⟨XA, xl, xc⟩ := X
      simp only at *
      have hrd := ok.rd
      have hle := ok.le
      have HRD := Lib.hid hrd
      have HXLE := Lib.hid hle
      have SM := Lib.hid sm
      have hxl9 : xl.length ≤ 9223372036854775807 := by simp only at hle; omega
      clear ok sm hrd hle
      go_wp2_with fail
      go_loopw [5, 21] (fun v5 v21 wq => ∃ (k : Nat) (M : List UInt8) (A : Option Addr) (c : Nat), k ≤ xl.length ∧ v21 = .int .i64 (k : Nat) ∧ M = L ++ byL (xl.take k) ∧ v5 = .slice A M.length c ∧ wq.ownsRow w.heap.size 5 1 (.slice A M.length c) M.length (M.map B) ∧ Fr (fun _ => False) w wq) (fun _ i _ => xl.length - (intOf i).toNat)
      case atStart => exact ⟨0, L, A5, c5, Nat.zero_le _, rfl, by simp [byL], rfl, hown, F⟩
      case round =>
        clear hown F
        obtain ⟨k, M, A, c, hk', rfl, hM, rfl, hown, F⟩ := hrel
        by_cases hlk : k < xl.length
        · obtain ⟨ga, oa, rfl, _, q1⟩ := rd_int (HRD.out.fr F fun _ _ => id) hlk
          have sx := SM.out _ (List.getElem_mem hlk)
          have hbs := byL_succ hlk
          have hMl : M.length = L.length + k := by rw [hM, List.length_append, byL_length, List.length_take]; omega
          have hMx : L ++ byL (xl.take (k + 1)) = M ++ [UInt8.ofNat xl[k].toNat] := by rw [hbs, hM, List.append_assoc]
          have hBx := B_of sx.1 sx.2
          have HMX := Lib.hid hMx
          have HBX := Lib.hid hBx
          have hm1 : M.length + 1 ≤ 140737488355328 := by
            have := HB2.out
            have : xl.length ≤ 17592186044416 := HXLE.out
            omega
          have HM1 := Lib.hid hm1
          have hwx : IntKind.u8.wrap xl[k] = xl[k] := by rw [IntKind.wrap_u8]; omega
          have hlo := World.ownsRow.lt hown
          clear hbs hMl hMx hBx hm1 hM sx
          generalize xl[k] = x at *
          go_wp2_with (at_builtin; refine wpList_append_wide _ rfl (.tmp 25) (.tmp 28) 110 rfl w.heap.size 5 i0 _ 1 1 Try.underlying110 hi0 hz0 hz1 hz2 rfl (by decide) (.slice A M.length c) M.length (M.map B) rfl (hown.alloc _) (some ⟨wr.heap.size, 0, none⟩) 1 1 [.int .u8 x] rfl rfl (lit_rd rfl _ _) (by simp [Value.oneCell']) (by have := HM1.out; unfold maxLen; omega) (by have := HM1.out; omega) (Nat.le_trans F.size (by simp)) ?_; intro v6 w6 hown6 hg6 hat6; obtain ⟨A6, c6, rfl, _, _, _, _⟩ := wide_form hown6)
          have F6 := (F.alloc (.cells #[.int .u8 x] 5)).grown hg6 fun j hj => .inr (hlo j hj).1
          have hown7 : w6.ownsRow w.heap.size 5 1 (.slice A6 (M ++ [UInt8.ofNat x.toNat]).length c6) (M ++ [UInt8.ofNat x.toNat]).length ((M ++ [UInt8.ofNat x.toNat]).map B) := by
            rw [List.length_append, List.map_append, List.map_singleton, HBX.out]
            exact hown6
          have HO7 := Lib.hid hown7
          clear hg6 hat6 hlo hown6 hown7
          go_wp2_with fail
          go_roundw
          case rel => exact ⟨k + 1, M ++ [UInt8.ofNat x.toNat], A6, c6, by omega, by go_num, HMX.out.symm, by rw [List.length_append]; rfl, HO7.out, F6⟩
          case measure => simp [intOf]; omega
        · have hkl : k = xl.length := by omega
          have hM2 : M = UInt8.ofNat kd :: bytesX (ls.take (i + 1)) := by rw [HLX.out, hM, hkl, List.take_length]
          have HM2 := Lib.hid hM2
          have HOW := Lib.hid hown
          clear hM hM2 hkl hown
          go_wp2_with fail
          go_roundw
          case rel => exact ⟨i + 1, M, A, c, by omega, by go_num, HM2.out, rfl, HOW.out, F⟩
          case measure => simp [intOf]; omega
    · have hil : i = ls.length := by omega
      rw [hil, List.take_length] at hL
      have HL := Lib.hid hL
      have hcv := own_text (own_zero hown) Try.underlying110 Try.underlying5 Try.underlying9
      clear hil hown hL
      go_wp2_with fail
      go_ret
      exact ⟨by rw [← HL.out]; rfl, F⟩
end Go.Proofs.Ytmohefkingnknaa.Te

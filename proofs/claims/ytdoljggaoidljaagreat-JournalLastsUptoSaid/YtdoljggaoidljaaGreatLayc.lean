/- Contracts: bareFrom over a row that is read; isPage; size of texts. -/
import Derived.Test.YtdoljggaoidljaaGreatLayb
namespace Go.Proofs.YtdoljggaoidljaaGreat
open Go.RowKit

/-- n bytes that are read from an address on -/
def Rb (w : World) (A : Option Addr) (f : Nat → UInt8) (n : Nat) : Prop := 0 < n → ∃ b o, A = some ⟨b, o, none⟩ ∧ ∀ i, i < n → w.cell? ⟨b, o + i, none⟩ = some (B (f i))

theorem ret_int {k : IntKind} {a b : Int} (h : a = b) : Ending.returned (.int k a) = .returned (.int k b) := by rw [h]
theorem byte_255 {x : UInt8} (h : x = 255) : (((x.toNat : Int)) == 255) = true := by subst h; rfl
theorem byte_not {x : UInt8} (h : ¬ x = 255) : (((x.toNat : Int)) == 255) = false := by
  have : x.toNat ≠ 255 := fun e => h (UInt8.toNat_inj.1 (e.trans rfl))
  simp; omega

set_option maxHeartbeats 400000 in
theorem bareFrom_any {w : World} {A : Option Addr} {n c : Nat} {f : Nat → UInt8} (h : Rb w A f n) (hm : n ≤ 4096) :
    Calls Tryz.prog 76 #[.slice A n c] w fun e w' => e = .returned (.int .i64 (bareN f n : Nat)) ∧ w = w' := by
  go_enter Tryz.func76, Tryz.ntmps76
  go_wp2
  go_loop [3] (fun i => ∃ k : Nat, k ≤ n ∧ i = .int .i64 k ∧ bareN f k = bareN f n) (fun i => (intOf i).toNat)
  case atStart => exact ⟨n, Nat.le_refl _, rfl, rfl⟩
  case round =>
    obtain ⟨k, hk, rfl, hb⟩ := hrel
    have HB := Lib.hid hb
    clear hb
    rcases k with _ | j
    · go_wp2
      go_ret
      exact ⟨ret_int (by rw [← HB.out]; rfl), rfl⟩
    · obtain ⟨b, o, rfl, hc⟩ := h (by omega)
      have hcell := hc j (by omega)
      unfold B at hcell
      clear hc h
      have e1 : (((j + 1 : Nat) : Int) - 1).toNat = j := by omega
      by_cases hx : f j = 255
      · have ht := byte_255 hx
        have HX := Lib.hid hx
        clear hx
        go_wp2
        go_round
        case rel => exact ⟨j, by omega, by go_num, by rw [← HB.out, bareN, if_pos HX.out]⟩
        case measure => simp [intOf]
      · have ht := byte_not hx
        have HX := Lib.hid hx
        clear hx
        go_wp2
        go_ret
        exact ⟨ret_int (by rw [← HB.out, bareN, if_neg HX.out]; rfl), rfl⟩

def isPageB (p : Int) : Bool := decide (0 ≤ p ∧ p < 24)
theorem isPage_any (p : Int) (w : World) (h1 : -9223372036854775808 ≤ p) (h2 : p ≤ 9223372036854775807) :
    Calls Tryz.prog 57 #[.int .i64 p] w fun e w' => e = .returned (.bool (isPageB p)) ∧ w = w' := by
  by_cases h0 : 0 ≤ p
  · by_cases h3 : p < 24
    · have H : Hid (isPageB p = true) := Lib.hid (by unfold isPageB; simp; omega)
      have d0 : decide (0 ≤ p) = true := by simpa using h0
      have d1 : decide (p < 24) = true := by simpa using h3
      go_enter Tryz.func57, Tryz.ntmps57
      go_wp2
      go_ret
      exact ⟨by rw [H.out]; rfl, rfl⟩
    · have H : Hid (isPageB p = false) := Lib.hid (by unfold isPageB; simp; omega)
      have d0 : decide (0 ≤ p) = true := by simpa using h0
      have d1 : decide (p < 24) = false := by simpa using h3
      go_enter Tryz.func57, Tryz.ntmps57
      go_wp2
      go_ret
      exact ⟨by rw [H.out]; rfl, rfl⟩
  · have H : Hid (isPageB p = false) := Lib.hid (by unfold isPageB; simp; omega)
    have d0 : decide (0 ≤ p) = false := by simpa using h0
    go_enter Tryz.func57, Tryz.ntmps57
    go_wp2
    go_ret
    exact ⟨by rw [H.out]; rfl, rfl⟩

/-- the texts, one behind the other -/
def jn (xs : List ByteArray) : List UInt8 := (xs.map bytesOf).flatten
theorem jn_snoc (xs : List ByteArray) (k : Nat) (h : k < xs.length) : jn (xs.take (k + 1)) = jn (xs.take k) ++ bytesOf xs[k] := by
  unfold jn
  rw [List.take_succ_eq_append_getElem h, List.map_append, List.flatten_append]
  simp
theorem jn_take_le (xs : List ByteArray) (k : Nat) : (jn (xs.take k)).length ≤ (jn xs).length := by
  have e : jn xs = jn (xs.take k) ++ jn (xs.drop k) := by
    unfold jn
    rw [← List.flatten_append, ← List.map_append, List.take_append_drop]
  rw [e, List.length_append]
  omega

set_option maxHeartbeats 400000 in
theorem size_any {w : World} {A : Option Addr} {c : Nat} {xs : List ByteArray} (h : Rd w A (xs.map Value.string)) (hlen : xs.length ≤ 140737488355328) (hT : (jn xs).length ≤ 4611686018427387904) :
    Calls Tryz.prog 79 #[.slice A xs.length c] w fun e w' => e = .returned (.int .i64 ((jn xs).length : Nat)) ∧ w = w' := by
  go_enter Tryz.func79, Tryz.ntmps79
  go_wp2
  go_loop [3, 5, 8] (fun n _ i => ∃ k : Nat, k ≤ xs.length ∧ i = .int .i64 k ∧ n = .int .i64 ((jn (xs.take k)).length : Nat)) (fun _ _ i => xs.length - (intOf i).toNat)
  case atStart => exact ⟨0, Nat.zero_le _, rfl, rfl⟩
  case round =>
    obtain ⟨k, hk, rfl, rfl⟩ := hrel
    by_cases hlt : k < xs.length
    · have hs := jn_snoc xs k hlt
      have hle := jn_take_le xs (k + 1)
      rw [hs, List.length_append, bytesOf_length] at hle
      have HS : Hid ((jn (xs.take (k + 1))).length = (jn (xs.take k)).length + xs[k].size) := Lib.hid (by rw [hs, List.length_append, bytesOf_length])
      obtain ⟨b, o, rfl, _, hcell⟩ := h (by rw [List.length_map]; omega)
      have hc := hcell k (.string xs[k]) (by rw [List.getElem?_map, List.getElem?_eq_getElem hlt]; rfl)
      clear hs h hcell
      generalize xs[k] = x at HS hc hle
      go_wp2
      go_round
      case rel => exact ⟨k + 1, by omega, by go_num, by rw [HS.out]; rfl⟩
      case measure => simp [intOf]; omega
    · have hkn : k = xs.length := by omega
      subst hkn
      go_wp2
      go_ret
      exact ⟨rfl, rfl⟩
end Go.Proofs.YtdoljggaoidljaaGreat

/- The contract of Seal. -/
import Derived.Test.YtdoljggaoidljaaGreatSopens
namespace Go.Proofs.YtdoljggaoidljaaGreat.Se
open Go.RowKit Crc

theorem join_jn (xs : List ByteArray) : Lib.join (xs.map (·.data.toList)) [] = jn xs := by
  cases xs with
  | nil => rfl
  | cons x r =>
    rw [List.map_cons, Lib.join_cons]
    unfold Lib.joinTail jn
    rw [List.map_cons, List.flatten_cons, List.map_map]
    rfl
theorem join_any {w : World} {A : Option Addr} {c : Nat} {xs : List ByteArray} (h : Rd w A (xs.map Value.string)) (hlen : xs.length ≤ 140737488355328) (hc : xs.length ≤ c) (hT : (jn xs).length ≤ 140737488355328) :
    Calls Tryz.prog 75 #[.slice A xs.length c, .string ⟨#[]⟩] w fun e w' => e = .returned (.string ⟨(jn xs).toArray⟩) ∧ Fr (fun _ => False) w w' := by
  rcases Nat.eq_zero_or_pos xs.length with h0 | h0
  · have : xs = [] := List.eq_nil_of_length_eq_zero h0
    subst this
    exact (Tryz.strings_Join_none A c ⟨#[]⟩ w).mono fun e w' ⟨he, hw⟩ => ⟨he, hw ▸ Fr.refl _ _⟩
  · obtain ⟨b, o, rfl, hb, hcell⟩ := h (by simpa using h0)
    have e : (⟨#[]⟩ : ByteArray).data.toList = [] := rfl
    have K := Tryz.strings_Join b o c xs ⟨#[]⟩ w (fun j x hx => hcell j (.string x) (by rw [List.getElem?_map, hx]; rfl)) hb hlen hc (by rw [e, join_jn]; exact hT)
    rw [e, join_jn] at K
    exact K.mono fun e w' ⟨he, hw⟩ => ⟨he, Fr.ofBelow hw⟩
theorem jn_le (xs : List ByteArray) (k : Nat) : (jn (xs.take k)).length ≤ (jn xs).length := by
  have e : jn xs = jn (xs.take k) ++ jn (xs.drop k) := by
    unfold jn
    rw [← List.flatten_append, ← List.map_append, List.take_append_drop]
  rw [e, List.length_append]
  omega
theorem mk_append (a b : List UInt8) : (⟨a.toArray⟩ : ByteArray) ++ ⟨b.toArray⟩ = ⟨(a ++ b).toArray⟩ := bytesOf_inj (by rw [bytesOf_append]; rfl)

/-- what Seal answers -/
def frameL (l : List UInt8) : List UInt8 × Int := if 1024 < l.length then ([], 2) else (frame l, 0)
set_option maxHeartbeats 400000 in
theorem seal_any {w : World} {A : Option Addr} {c : Nat} {xs : List ByteArray} (h : Rd w A (xs.map Value.string)) (hlen : xs.length ≤ 140737488355328) (hc : xs.length ≤ c) (hT : (jn xs).length ≤ 4611686018427387904) :
    Calls Tryz.prog 74 #[.slice A xs.length c] w fun e w' => e = .returned (.tuple #[.string ⟨(frameL (jn xs)).1.toArray⟩, .int .i64 (frameL (jn xs)).2]) ∧ Fr (fun _ => False) w w' := by
  have H1 : Hid (1024 < (jn xs).length → frameL (jn xs) = ([], 2)) := fun h => by unfold frameL; rw [if_pos h]
  have H2 : Hid (¬ 1024 < (jn xs).length → frameL (jn xs) = (frame (jn xs), 0)) := fun h => by unfold frameL; rw [if_neg h]
  go_enter Tryz.func74, Tryz.ntmps74
  go_wp2
  go_loop [4, 10] (fun r i => ∃ k, k ≤ xs.length ∧ i = .int .i64 (k : Nat) ∧ r = .int .i64 ((jn (xs.take k)).length : Nat)) (fun _ i => xs.length - (intOf i).toNat)
  case atStart => exact ⟨0, Nat.zero_le _, rfl, rfl⟩
  case round =>
    obtain ⟨k, hk, rfl, rfl⟩ := hrel
    by_cases hlt : k < xs.length
    · obtain ⟨g, o, rfl, hg, hcl⟩ := h (by simp; omega)
      have c1 : w.cell? ⟨g, o + k, none⟩ = some (.string xs[k]) := hcl k (.string xs[k]) (by rw [List.getElem?_map, List.getElem?_eq_getElem hlt]; rfl)
      have hn : (jn (xs.take (k + 1))).length = (jn (xs.take k)).length + xs[k].size := by
        rw [jn_take xs k hlt, List.length_append, bytesOf_length]
      have hle : (jn (xs.take (k + 1))).length ≤ (jn xs).length := jn_le xs (k + 1)
      generalize xs[k] = x at *
      generalize (jn (xs.take k)).length = r at *
      have hb : r + x.size ≤ 4611686018427387904 := by omega
      have HN := Lib.hid hn
      clear hn hcl h hle
      go_wp2
      go_round
      case rel => exact ⟨k + 1, by omega, by go_num, by rw [HN.out]; go_num⟩
      case measure => simp [intOf]; omega
    · have hk' : k = xs.length := by omega
      rw [List.take_of_length_le (by omega)]
      by_cases hl : 1024 < (jn xs).length
      · have HF := Lib.hid (H1.out hl)
        clear hk' h H1 H2
        go_wp2
        go_ret2
        rw [HF.out]
        exact ⟨rfl, Fr.refl _ _⟩
      · have HF := Lib.hid (H2.out hl)
        clear hk' H1 H2
        have K1 := number2 (jn xs).length (by omega) w
        have KJ := fun (w1 : World) (f : Fr (fun _ => False) w w1) => join_any (h.fr f (fun _ _ => id)) hlen hc (by omega)
        have hz : ((⟨(hdr (jn xs).length).toArray⟩ : ByteArray) ++ ⟨(jn xs).toArray⟩).size = 2 + (jn xs).length := by
          rw [mk_append, size_of, bytesOf_mk, List.length_append]
          rfl
        have KS := sum_one ((⟨(hdr (jn xs).length).toArray⟩ : ByteArray) ++ ⟨(jn xs).toArray⟩) (by omega)
        rw [mk_append, bytesOf_mk, ← mk_append] at KS
        have KN := number4 (sum (hdr (jn xs).length ++ jn xs))
        have g1 : ¬ (9223372036854775807 < (hdr (jn xs).length).length + (jn xs).length) := by
          rw [show (hdr (jn xs).length).length = 2 from rfl]; omega
        have g2 : ¬ (9223372036854775807 < 2 + (jn xs).length + (four (sum (hdr (jn xs).length ++ jn xs))).length) := by
          rw [show (four (sum (hdr (jn xs).length ++ jn xs))).length = 4 from rfl]; omega
        have HE : Hid ((⟨(hdr (jn xs).length).toArray⟩ : ByteArray) ++ ⟨(jn xs).toArray⟩ ++ ⟨(four (sum (hdr (jn xs).length ++ jn xs))).toArray⟩ = ⟨(frame (jn xs)).toArray⟩) := by
          show _ = _
          rw [mk_append, mk_append]
          rfl
        generalize hnn : (jn xs).length = n at *
        go_wp2_with (first | (go_at_call 93; refine K1.mono ?_; rintro e w1 ⟨rfl, hf1⟩))
        have KJ1 := KJ w1 hf1
        go_wp2_with (first | (go_at_call 75; refine KJ1.mono ?_; rintro e w2 ⟨rfl, hf2⟩))
        clear KJ KJ1 K1
        go_wp2_with (first | (go_at_call 94; refine (KS w2).mono ?_; rintro e w3 ⟨rfl, rfl⟩) | (go_at_call 93; refine (KN _).mono ?_; rintro e w4 ⟨rfl, hf4⟩))
        go_ret2
        rw [HF.out, ← HE.out]
        exact ⟨rfl, (((hf1.trans hf2 (fun _ _ h => h)).alloc _).trans hf4 (fun _ _ h => h))⟩
/-- of one part -/
theorem seal_one (x : ByteArray) (hx : x.size ≤ 4611686018427387904) (w : World) :
    Calls Tryz.prog 74 #[.slice (some ⟨w.heap.size, 0, none⟩) 1 1] (w.alloc (.cells #[.string x] 9)) fun e w' => e = .returned (.tuple #[.string ⟨(frameL (bytesOf x)).1.toArray⟩, .int .i64 (frameL (bytesOf x)).2]) ∧ Fr (fun _ => False) w w' := by
  have K := seal_any (c := 1) (xs := [x]) (Rd.one w (.string x) 9) (by simp) (by simp) (by rw [jn_one, bytesOf_length]; exact hx)
  rw [jn_one] at K
  exact K.mono fun e w' ⟨he, hf⟩ => ⟨he, ((Fr.refl _ w).alloc _).trans hf (fun _ _ h => h)⟩
end Go.Proofs.YtdoljggaoidljaaGreat.Se

/- The contracts of Sum, of measure, and of taking a body out of its frame. -/
import Derived.Test.YtdoljggaoidljaaGreatSnum
import Derived.Test.YtdoljggaoidljaaGreatShelfo
namespace Go.Proofs.YtdoljggaoidljaaGreat.Se
open Go.RowKit Crc

/-- the bytes of parts, one behind the other -/
def jn (xs : List ByteArray) : List UInt8 := (xs.map bytesOf).flatten
theorem jn_take (xs : List ByteArray) (k : Nat) (h : k < xs.length) : jn (xs.take (k + 1)) = jn (xs.take k) ++ bytesOf xs[k] := by
  unfold jn
  rw [List.take_succ_eq_append_getElem h, List.map_append, List.flatten_append]
  show _ ++ (bytesOf xs[k] ++ []) = _
  rw [List.append_nil]
theorem jn_nil : jn [] = [] := rfl
theorem jn_one (x : ByteArray) : jn [x] = bytesOf x := by simp [jn]

theorem sclone_any (s : ByteArray) (w : World) (hlim : s.size ≤ 281474976710656) :
    Calls Tryz.prog 24 #[.string s] w fun e w' => e = .returned (.string s) ∧ Fr (fun _ => False) w w' := by
  have K := Tryz.stringslite_Clone s w hlim
  go_enter Tryz.func24, Tryz.ntmps24
  go_wp2_with (go_at_call 38; refine K.mono ?_; rintro e w1 ⟨rfl, hf1⟩)
  go_ret
  exact ⟨rfl, Fr.ofBelow hf1⟩

theorem sum_any {w : World} {A : Option Addr} {c : Nat} {xs : List ByteArray} (h : Rd w A (xs.map Value.string)) (hlen : xs.length ≤ 140737488355328) (hx : ∀ x ∈ xs, x.size ≤ 9223372036854775807) :
    Calls Tryz.prog 94 #[.slice A xs.length c] w fun e w' => e = .returned (.int .i64 ((sum (jn xs)).toNat : Int)) ∧ w = w' := by
  go_enter Tryz.func94, Tryz.ntmps94
  go_wp2
  go_loop [3, 8] (fun r i => ∃ k, k ≤ xs.length ∧ i = .int .i64 (k : Nat) ∧ r = .int .u32 ((sum (jn (xs.take k))).toNat : Int)) (fun _ i => xs.length - (intOf i).toNat)
  case atStart => exact ⟨0, Nat.zero_le _, rfl, rfl⟩
  case round =>
    obtain ⟨k, hk, rfl, rfl⟩ := hrel
    by_cases hlt : k < xs.length
    · obtain ⟨g, o, rfl, hg, hc⟩ := h (by simp; omega)
      have c1 : w.cell? ⟨g, o + k, none⟩ = some (.string xs[k]) := hc k (.string xs[k]) (by rw [List.getElem?_map, List.getElem?_eq_getElem hlt]; rfl)
      have K := feed_any (sum (jn (xs.take k))) xs[k] (hx _ (List.getElem_mem hlt)) w
      have hn : sum (jn (xs.take (k + 1))) = crc (sum (jn (xs.take k))) (bytesOf xs[k]) := by
        rw [jn_take xs k hlt]
        exact crc_append _ _ _
      rw [← hn] at K
      generalize xs[k] = x at *
      generalize sum (jn (xs.take k)) = r at *
      have HN := Lib.hid hn
      clear hn hc h
      go_wp2_with (go_at_call 101; refine K.mono ?_; rintro e w1 ⟨rfl, rfl⟩)
      go_round
      case rel => exact ⟨k + 1, by omega, by go_num, rfl⟩
      case measure => simp [intOf]; omega
    · have hk' : k = xs.length := by omega
      rw [List.take_of_length_le (by omega)]
      have hv := (sum (jn xs)).isLt
      clear hk' h
      go_wp2
      go_ret
      exact ⟨rfl, rfl⟩
theorem sum_one (x : ByteArray) (hx : x.size ≤ 9223372036854775807) (w : World) :
    Calls Tryz.prog 94 #[.slice (some ⟨w.heap.size, 0, none⟩) 1 1] (w.alloc (.cells #[.string x] 9)) fun e w' => e = .returned (.int .i64 ((sum (bytesOf x)).toNat : Int)) ∧ w.alloc (.cells #[.string x] 9) = w' := by
  have K := sum_any (c := 1) (xs := [x]) (Rd.one w (.string x) 9) (by simp) (by simpa using hx)
  rw [jn_one] at K
  exact K

/-- how many bytes the frame has with which a text begins -/
def meas (l : List UInt8) : Nat × Int := if l.length < 6 then (0, 1) else if 1024 < told l then (0, 2) else if l.length < told l + 6 then (0, 1) else (told l + 6, 0)
theorem measure_any (s : ByteArray) (w : World) :
    Calls Tryz.prog 80 #[.string s] w fun e w' => e = .returned (.tuple #[.int .i64 ((meas (bytesOf s)).1 : Nat), .int .i64 (meas (bytesOf s)).2]) ∧ w = w' := by
  unfold meas
  rw [bytesOf_length]
  by_cases h6 : s.size < 6
  · rw [if_pos h6]
    go_enter Tryz.func80, Tryz.ntmps80
    go_wp2
    go_ret2
    exact ⟨rfl, rfl⟩
  · rw [if_neg h6]
    have hb : bytesOf (s.extract 0 2) = (bytesOf s).take 2 := by rw [bytesOf_extract]; rfl
    have K := value_any (s.extract 0 2) (by rw [ByteArray.size_extract]; omega) w
    rw [hb, val_two _ (by rw [bytesOf_length]; omega)] at K
    have ht : told (bytesOf s) < 65536 := by
      unfold told
      have h1 := UInt8.toNat_lt (bytesOf s)[0]!
      have h2 := UInt8.toNat_lt (bytesOf s)[1]!
      omega
    clear hb
    generalize told (bytesOf s) = n at *
    by_cases h1 : 1024 < n
    · rw [if_pos h1]
      go_enter Tryz.func80, Tryz.ntmps80
      go_wp2_with (go_at_call 98; refine K.mono ?_; rintro e w1 ⟨rfl, rfl⟩)
      go_ret2
      exact ⟨rfl, rfl⟩
    · rw [if_neg h1]
      by_cases h2 : s.size < n + 6
      · rw [if_pos h2]
        go_enter Tryz.func80, Tryz.ntmps80
        go_wp2_with (go_at_call 98; refine K.mono ?_; rintro e w1 ⟨rfl, rfl⟩)
        go_ret2
        exact ⟨rfl, rfl⟩
      · rw [if_neg h2]
        go_enter Tryz.func80, Tryz.ntmps80
        go_wp2_with (go_at_call 98; refine K.mono ?_; rintro e w1 ⟨rfl, rfl⟩)
        go_ret2
        refine ⟨?_, rfl⟩
        rw [show ((n + 6 : Nat) : Int) = 2 + (n : Int) + 4 from by omega]
        rfl

/-- the body of a frame of which only the sum isn't sure -/
def uns (l : List UInt8) : List UInt8 × Int := if l.drop (l.length - 4) = four (sum (l.take (l.length - 4))) then ((l.take (l.length - 4)).drop 2, 0) else ([], 4)
theorem unseal_any (s : ByteArray) (h6 : 6 ≤ s.size) (hlim : s.size ≤ 140737488355328) (w : World) :
    Calls Tryz.prog 81 #[.string s] w fun e w' => e = .returned (.tuple #[.string ⟨(uns (bytesOf s)).1.toArray⟩, .int .i64 (uns (bytesOf s)).2]) ∧ Fr (fun _ => False) w w' := by
  have hb1 : bytesOf (s.extract 0 (s.size - 4)) = (bytesOf s).take (s.size - 4) := by rw [bytesOf_extract]; rfl
  have hb2 : bytesOf (s.extract (s.size - 4) s.size) = (bytesOf s).drop (s.size - 4) := by rw [bytesOf_extract, size_of, List.take_length]
  have z1 : (s.extract 0 (s.size - 4)).size = s.size - 4 := by rw [ByteArray.size_extract]; omega
  have z2 : (s.extract (s.size - 4) s.size).size = 4 := by rw [ByteArray.size_extract]; omega
  have K1 := sum_one (s.extract 0 (s.size - 4)) (by omega)
  have K2 := value_any (s.extract (s.size - 4) s.size) (by omega)
  rw [hb1] at K1
  rw [hb2] at K2
  have hv := val_four_iff (l := (bytesOf s).drop (s.size - 4)) (sum ((bytesOf s).take (s.size - 4))) (by rw [List.length_drop, bytesOf_length]; omega)
  unfold uns
  rw [bytesOf_length]
  by_cases he : (bytesOf s).drop (s.size - 4) = four (sum ((bytesOf s).take (s.size - 4)))
  · rw [if_pos he]
    have hn : (((sum ((bytesOf s).take (s.size - 4))).toNat : Int) != (val ((bytesOf s).drop (s.size - 4)) : Nat)) = false := by
      rw [hv.2 he]; simp
    have hb3 : bytesOf ((s.extract 0 (s.size - 4)).extract 2 (s.size - 4)) = ((bytesOf s).take (s.size - 4)).drop 2 := by
      rw [bytesOf_extract, hb1, List.take_take, Nat.min_self]
    have z3 : ((s.extract 0 (s.size - 4)).extract 2 (s.size - 4)).size = s.size - 6 := by rw [ByteArray.size_extract, z1]; omega
    have K3 := fun W => sclone_any ((s.extract 0 (s.size - 4)).extract 2 (s.size - 4)) W (by omega)
    rw [← hb3, mk_bytesOf]
    clear he hv hb1 hb2 hb3
    go_enter Tryz.func81, Tryz.ntmps81
    go_wp2
    go_quiet (fail)
    have f0 := (Fr.refl (fun _ => False) w).drewN nq
    generalize w.drewN nq = w0 at *
    go_wp2_with (first | (go_at_call 94; refine (K1 w0).mono ?_; rintro e w1 ⟨rfl, rfl⟩) | (go_at_call 98; refine (K2 _).mono ?_; rintro e w1 ⟨rfl, rfl⟩) | (go_at_call 24; refine (K3 _).mono ?_; rintro e w3 ⟨rfl, hf3⟩))
    go_ret2
    exact ⟨rfl, (f0.alloc _).trans hf3 (fun _ _ h => h)⟩
  · rw [if_neg he]
    have hn : (((sum ((bytesOf s).take (s.size - 4))).toNat : Int) != (val ((bytesOf s).drop (s.size - 4)) : Nat)) = true := by
      rw [bne_iff_ne]
      intro h
      exact he (hv.1 (by omega))
    clear he hv hb1 hb2
    go_enter Tryz.func81, Tryz.ntmps81
    go_wp2
    go_quiet (fail)
    have f0 := (Fr.refl (fun _ => False) w).drewN nq
    generalize w.drewN nq = w0 at *
    go_wp2_with (first | (go_at_call 94; refine (K1 w0).mono ?_; rintro e w1 ⟨rfl, rfl⟩) | (go_at_call 98; refine (K2 _).mono ?_; rintro e w1 ⟨rfl, rfl⟩))
    go_ret2
    exact ⟨rfl, f0.alloc _⟩
end Go.Proofs.YtdoljggaoidljaaGreat.Se

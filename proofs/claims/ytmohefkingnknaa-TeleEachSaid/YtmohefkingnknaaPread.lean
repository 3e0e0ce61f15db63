/- The contracts of the reader (package pack): Read, take, number. -/
import Derived.Test.YtmohefkingnknaaPtext
namespace Go.Proofs.Ytmohefkingnknaa.Pa
open Go.RowKit

/-- The program's reader lies at block b, and stands at r. -/
def Re (w : World) (b : Nat) (s : ByteArray) (bad : Bool) : Prop := Is w b 121 #[.string s, .bool bad]

theorem read_any (s : ByteArray) (w : World) :
    Calls Try.prog 40 #[.string s] w fun e w' => e = .returned (.pointer (some ⟨w.heap.size, 0, none⟩)) ∧ w' = w.alloc (.cells #[.string s, .bool false] 121) := by
  go_enter Try.func40, Try.ntmps40
  go_wp2
  go_ret
  exact ⟨rfl, rfl⟩

theorem take_yes {w : World} {b : Nat} {s : ByteArray} (h : Re w b s false) (n : Nat) (hn : n ≤ s.size) :
    Calls Try.prog 73 #[.pointer (some ⟨b, 0, none⟩), .int .i64 (n : Int)] w fun e w' => e = .returned (.string (s.extract 0 n)) ∧ Re w' b (s.extract n s.size) false ∧ Fr (fun k => k = b) w w' := by
  have c0 : w.cell? ⟨b, 0, none⟩ = some (.string s) := (h.cell 0).trans rfl
  have c1 : w.cell? ⟨b, 1, none⟩ = some (.bool false) := (h.cell 1).trans rfl
  have f0 : w.frozen? ⟨b, 0, none⟩ = false := h.frozen 0
  have f1 : w.frozen? ⟨b, 1, none⟩ = false := h.frozen 1
  go_enter Try.func73, Try.ntmps73
  go_wp2
  go_ret
  exact ⟨rfl, h.set 0 _, (Fr.refl (fun k => k = b) w).setCell (p := ⟨b, 0, none⟩) (.inl rfl) _⟩
theorem take_no {w : World} {b : Nat} {s : ByteArray} (h : Re w b s false) (n : Nat) (hn : s.size < n) :
    Calls Try.prog 73 #[.pointer (some ⟨b, 0, none⟩), .int .i64 (n : Int)] w fun e w' => e = .returned (.string ⟨#[]⟩) ∧ Re w' b s true ∧ Fr (fun k => k = b) w w' := by
  have c0 : w.cell? ⟨b, 0, none⟩ = some (.string s) := (h.cell 0).trans rfl
  have c1 : w.cell? ⟨b, 1, none⟩ = some (.bool false) := (h.cell 1).trans rfl
  have f0 : w.frozen? ⟨b, 0, none⟩ = false := h.frozen 0
  have f1 : w.frozen? ⟨b, 1, none⟩ = false := h.frozen 1
  go_enter Try.func73, Try.ntmps73
  go_wp2
  go_ret
  exact ⟨rfl, h.set 1 _, (Fr.refl (fun k => k = b) w).setCell (p := ⟨b, 1, none⟩) (.inl rfl) _⟩
theorem take_bad {w : World} {b : Nat} {s : ByteArray} (h : Re w b s true) (n : Nat) :
    Calls Try.prog 73 #[.pointer (some ⟨b, 0, none⟩), .int .i64 (n : Int)] w fun e w' => e = .returned (.string ⟨#[]⟩) ∧ Re w' b s true ∧ Fr (fun k => k = b) w w' := by
  have c1 : w.cell? ⟨b, 1, none⟩ = some (.bool true) := (h.cell 1).trans rfl
  have f1 : w.frozen? ⟨b, 1, none⟩ = false := h.frozen 1
  go_enter Try.func73, Try.ntmps73
  go_wp2
  go_ret
  exact ⟨rfl, h.set 1 _, (Fr.refl (fun k => k = b) w).setCell (p := ⟨b, 1, none⟩) (.inl rfl) _⟩

/-- A reader as plain data, its rest as a text: what a taking of n bytes gives, leaves, and whether it fell short. -/
structure Rs where
  s : ByteArray
  bad : Bool
namespace Rs
def no (r : Rs) (n : Nat) : Bool := r.bad || decide (r.s.size < n)
def tk (r : Rs) (n : Nat) : ByteArray := if r.no n = true then ⟨#[]⟩ else r.s.extract 0 n
def aft (r : Rs) (n : Nat) : Rs := if r.no n = true then ⟨r.s, true⟩ else ⟨r.s.extract n r.s.size, false⟩
end Rs
theorem take_any {w : World} {b : Nat} {r : Rs} (h : Re w b r.s r.bad) (n : Nat) :
    Calls Try.prog 73 #[.pointer (some ⟨b, 0, none⟩), .int .i64 (n : Int)] w fun e w' => e = .returned (.string (r.tk n)) ∧ Re w' b (r.aft n).s (r.aft n).bad ∧ Fr (fun k => k = b) w w' := by
  obtain ⟨s, bad⟩ := r
  simp only at h
  cases bad with
  | true =>
    have e1 : (Rs.mk s true).tk n = ⟨#[]⟩ := by simp [Rs.tk, Rs.no]
    have e2 : (Rs.mk s true).aft n = ⟨s, true⟩ := by simp [Rs.aft, Rs.no]
    rw [e1, e2]
    exact take_bad h n
  | false =>
    by_cases hn : n ≤ s.size
    · have e1 : (Rs.mk s false).tk n = s.extract 0 n := by simp [Rs.tk, Rs.no, Nat.not_lt.2 hn]
      have e2 : (Rs.mk s false).aft n = ⟨s.extract n s.size, false⟩ := by simp [Rs.aft, Rs.no, Nat.not_lt.2 hn]
      rw [e1, e2]
      exact take_yes h n hn
    · have e1 : (Rs.mk s false).tk n = ⟨#[]⟩ := by simp [Rs.tk, Rs.no, show s.size < n by omega]
      have e2 : (Rs.mk s false).aft n = ⟨s, true⟩ := by simp [Rs.aft, Rs.no, show s.size < n by omega]
      rw [e1, e2]
      exact take_no h n (by omega)

/-- the number that bytes tell, the greatest first -/
def val (l : List UInt8) : Int := l.foldl (fun n b => n * 256 + (b.toNat : Int)) 0
theorem val_snoc (l : List UInt8) (b : UInt8) : val (l ++ [b]) = val l * 256 + (b.toNat : Int) := by simp [val, List.foldl_append]
theorem val_take_bd (l : List UInt8) (k : Nat) (hk : k ≤ l.length) : 0 ≤ val (l.take k) ∧ val (l.take k) < 256 ^ k := by
  induction k with
  | zero => simp [val]
  | succ k ih =>
    have h := ih (by omega)
    have hb : (l[k]'(by omega)).toNat < 256 := UInt8.toNat_lt _
    rw [List.take_succ_eq_append_getElem (by omega), val_snoc, Int.pow_succ]
    omega
theorem or_join (a : Int) (b : UInt8) (h0 : 0 ≤ a) (h1 : a < 16777216) : bits .or .i64 (a * 256) (b.toNat : Int) = a * 256 + (b.toNat : Int) := by
  have hb : b.toNat < 256 := UInt8.toNat_lt b
  exact bits_join .i64 62 (by decide) (fun n h h' => by rw [IntKind.wrap_i64]; omega) 8 _ _ (by omega) (by omega) (by omega) (by omega) (by omega) (by omega)
/-- what '[]byte(t)' lays, read byte by byte -/
theorem bytesRow_cell {w : World} {g : Nat} {t : ByteArray} {cap : Nat} {e : TypeId} {fr : Nat × Nat} (h : w.heap[g]? = some (.cells (bytesRow t cap) e fr)) (k : Nat) (hk : k < (bytesOf t).length) :
    w.cell? ⟨g, k, none⟩ = some (.int .u8 ((bytesOf t)[k].toNat : Int)) := by
  rw [cell_of_row w g k _ e fr h]
  have hs : k < t.data.size := by rw [bytesOf_length] at hk; exact hk
  have hs' : k < t.size := hs
  simp [bytesRow, bytesOf, Array.getElem?_append, hs']

set_option maxHeartbeats 800000 in
theorem number_any {w : World} {b : Nat} {r : Rs} (h : Re w b r.s r.bad) (n : Nat) (hn : n ≤ 4) :
    Calls Try.prog 66 #[.pointer (some ⟨b, 0, none⟩), .int .i64 (n : Int)] w fun e w' => e = .returned (.int .i64 (val (bytesOf (r.tk n)))) ∧ Re w' b (r.aft n).s (r.aft n).bad ∧ Fr (fun k => k = b) w w' := by
  have K := take_any h n
  have hlen : (bytesOf (r.tk n)).length ≤ 4 := by
    rw [bytesOf_length]; unfold Rs.tk; split
    · simp [ByteArray.size]
    · simp [ByteArray.size_extract]; omega
  have hsz := bytesOf_length (r.tk n)
  generalize r.tk n = t at *
  have hcv := fun W : World => run_bytes_of_string (P := Try.prog) W 9 110 5 t Try.underlying9 Try.underlying110 Try.underlying5
  have HZ := Lib.hid hsz
  clear hsz
  go_enter Try.func66, Try.ntmps66
  go_wp2_with (go_at_call 73; refine K.mono ?_; rintro e w1 ⟨rfl, hw1, hf1⟩)
  have hb2 : (w1.alloc (.cells (bytesRow t (grownCap w1 t.size 0 5)) 5 ((bytesRow t (grownCap w1 t.size 0 5)).size, (bytesRow t (grownCap w1 t.size 0 5)).size + 1))).drew.heap[w1.heap.size]? = some (.cells (bytesRow t (grownCap w1 t.size 0 5)) 5 ((bytesRow t (grownCap w1 t.size 0 5)).size, (bytesRow t (grownCap w1 t.size 0 5)).size + 1)) := heap_alloc_new w1 _
  have hcl := bytesRow_cell hb2
  have hf2 : Fr (fun k => k = b) w (w1.alloc (.cells (bytesRow t (grownCap w1 t.size 0 5)) 5 ((bytesRow t (grownCap w1 t.size 0 5)).size, (bytesRow t (grownCap w1 t.size 0 5)).size + 1))).drew := (hf1.alloc _).drew
  have hw2 : Re (w1.alloc (.cells (bytesRow t (grownCap w1 t.size 0 5)) 5 ((bytesRow t (grownCap w1 t.size 0 5)).size, (bytesRow t (grownCap w1 t.size 0 5)).size + 1))).drew b (r.aft n).s (r.aft n).bad := Is.alloc hw1 _
  generalize (w1.alloc (.cells (bytesRow t (grownCap w1 t.size 0 5)) 5 ((bytesRow t (grownCap w1 t.size 0 5)).size, (bytesRow t (grownCap w1 t.size 0 5)).size + 1))).drew = w2 at *
  clear hb2 hw1 hf1 hcv K
  have hts : t.size ≤ 4 := by rw [← HZ.out]; exact hlen
  go_loop [13, 5] (fun i v => ∃ k, k ≤ t.size ∧ i = .int .i64 (k : Nat) ∧ v = .int .i64 (val ((bytesOf t).take k))) (fun i _ => t.size - (intOf i).toNat)
  case atStart => exact ⟨0, Nat.zero_le _, rfl, rfl⟩
  case round =>
    obtain ⟨k, hk, rfl, rfl⟩ := hrel
    by_cases hlt : k < t.size
    · have hlt' : k < (bytesOf t).length := by rw [HZ.out]; exact hlt
      have hcell := hcl k hlt'
      have hvb := val_take_bd (bytesOf t) k (by omega)
      have hv1 : val ((bytesOf t).take k) < 16777216 := by
        have hk3 : k = 0 ∨ k = 1 ∨ k = 2 ∨ k = 3 := by omega
        rcases hk3 with rfl | rfl | rfl | rfl <;> omega
      have hv0 := hvb.1
      have hor := or_join (val ((bytesOf t).take k)) (bytesOf t)[k] hv0 hv1
      have hsn : val ((bytesOf t).take (k + 1)) = val ((bytesOf t).take k) * 256 + ((bytesOf t)[k].toNat : Int) := by
        rw [List.take_succ_eq_append_getElem hlt', val_snoc]
      have HS := Lib.hid hsn
      have hby : ((bytesOf t)[k].toNat : Int) < 256 := by have := UInt8.toNat_lt (bytesOf t)[k]; omega
      clear hsn hcl hvb
      go_wp2
      go_round
      case rel => exact ⟨k + 1, by omega, by go_num, by rw [HS.out]⟩
      case measure => simp [intOf]; omega
    · have hk' : k = t.size := by omega
      have HV : Hid (val ((bytesOf t).take k) = val (bytesOf t)) := by
        show _ = _
        rw [List.take_of_length_le (by rw [HZ.out, hk']; exact Nat.le_refl _)]
      clear hcl hk'
      go_wp2
      go_ret
      exact ⟨by rw [← HV.out]; rfl, hw2, hf2⟩
end Go.Proofs.Ytmohefkingnknaa.Pa

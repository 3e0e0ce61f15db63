/- The contracts of the document's reader: Num and End. -/
import Derived.Test.YtmohefkingnknaaPmnum
namespace Go.Proofs.Ytmohefkingnknaa.Pa
open Go.RowKit


/-- The document's reader lies at block b, and stands at s. -/
def Rm (w : World) (b : Nat) (s : ByteArray) (bad : Bool) : Prop := Is w b 89 #[.string s, .bool bad]
theorem Rm.fr {w w1 : World} {b : Nat} {s : ByteArray} {bad : Bool} {S : Nat → Prop} (h : Rm w b s bad) (f : Fr S w w1) (hn : ¬ S b) : Rm w1 b s bad := Is.fr h f hn
theorem Rm.drewN {w : World} {b : Nat} {s : ByteArray} {bad : Bool} (h : Rm w b s bad) (n : Nat) : Rm (w.drewN n) b s bad := h

theorem mrend_any {w : World} {b : Nat} {r : Rs} (h : Rm w b r.s r.bad) :
    Calls Try.prog 45 #[.pointer (some ⟨b, 0, none⟩)] w fun e w' => e = .returned (.int .i64 r.fin) ∧ w = w' := by
  have c0 : w.cell? ⟨b, 0, none⟩ = some (.string r.s) := (h.cell 0).trans rfl
  have c1 : w.cell? ⟨b, 1, none⟩ = some (.bool r.bad) := (h.cell 1).trans rfl
  obtain ⟨s, bad⟩ := r
  simp only at c0 c1 ⊢
  cases bad with
  | true =>
    have hf : (Rs.mk s true).fin = 1 := rfl
    rw [hf]
    go_enter Try.func45, Try.ntmps45
    go_wp2
    go_ret
    exact ⟨rfl, rfl⟩
  | false =>
    by_cases hs : s.size = 0
    · have hf : (Rs.mk s false).fin = 0 := by simp [Rs.fin, hs]
      rw [hf]
      have hd : decide (0 < s.size) = false := decide_eq_false (by omega)
      clear hs hf
      go_enter Try.func45, Try.ntmps45
      go_wp2
      go_ret
      exact ⟨rfl, rfl⟩
    · have hf : (Rs.mk s false).fin = 3 := by simp [Rs.fin, hs]
      rw [hf]
      have hd : decide (0 < s.size) = true := decide_eq_true (by omega)
      clear hs hf
      go_enter Try.func45, Try.ntmps45
      go_wp2
      go_ret
      exact ⟨rfl, rfl⟩

theorem mrnum_no {w : World} {b : Nat} {r : Rs} (h : Rm w b r.s r.bad) (n : Nat) (hno : r.no n = true) :
    Calls Try.prog 44 #[.pointer (some ⟨b, 0, none⟩), .int .i64 (n : Int)] w fun e w' => e = .returned (.int .i64 0) ∧ Rm w' b r.s true ∧ Fr (fun k => k = b) w w' := by
  have c0 : w.cell? ⟨b, 0, none⟩ = some (.string r.s) := (h.cell 0).trans rfl
  have c1 : w.cell? ⟨b, 1, none⟩ = some (.bool r.bad) := (h.cell 1).trans rfl
  have f1 : w.frozen? ⟨b, 1, none⟩ = false := h.frozen 1
  obtain ⟨s, bad⟩ := r
  simp only at c0 c1 ⊢
  unfold Rs.no at hno
  cases bad with
  | true =>
    clear hno
    go_enter Try.func44, Try.ntmps44
    go_wp2
    go_ret
    exact ⟨rfl, h.set 1 _, (Fr.refl (fun k => k = b) w).setCell (p := ⟨b, 1, none⟩) (.inl rfl) _⟩
  | false =>
    have hd : decide (s.size < n) = true := by simpa using hno
    clear hno
    go_enter Try.func44, Try.ntmps44
    go_wp2
    go_ret
    exact ⟨rfl, h.set 1 _, (Fr.refl (fun k => k = b) w).setCell (p := ⟨b, 1, none⟩) (.inl rfl) _⟩

set_option maxHeartbeats 800000 in
theorem mrnum_yes {w : World} {b : Nat} {s : ByteArray} (h : Rm w b s false) (n : Nat) (hn : n ≤ 4) (hle : n ≤ s.size) :
    Calls Try.prog 44 #[.pointer (some ⟨b, 0, none⟩), .int .i64 (n : Int)] w fun e w' => e = .returned (.int .i64 (val ((bytesOf s).take n))) ∧ Rm w' b (s.extract n s.size) false ∧ Fr (fun k => k = b) w w' := by
  have c0 : w.cell? ⟨b, 0, none⟩ = some (.string s) := (h.cell 0).trans rfl
  have c1 : w.cell? ⟨b, 1, none⟩ = some (.bool false) := (h.cell 1).trans rfl
  have f0 : w.frozen? ⟨b, 0, none⟩ = false := h.frozen 0
  have hd : decide (s.size < n) = false := by simp; omega
  go_enter Try.func44, Try.ntmps44
  go_wp2
  go_loop [6, 5] (fun i v => ∃ k, k ≤ n ∧ i = .int .i64 (k : Nat) ∧ v = .int .i64 (val ((bytesOf s).take k))) (fun i _ => n - (intOf i).toNat)
  case atStart => exact ⟨0, Nat.zero_le _, rfl, rfl⟩
  case round =>
    obtain ⟨k, hk, rfl, rfl⟩ := hrel
    by_cases hlt : k < n
    · have hlt' : k < (bytesOf s).length := by rw [bytesOf_length]; omega
      have hls : k < s.size := by omega
      have hx : s[k] = (bytesOf s)[k] := rfl
      have hvb := val_take_bd (bytesOf s) k (by omega)
      have hv1 : val ((bytesOf s).take k) < 16777216 := by
        have hk3 : k = 0 ∨ k = 1 ∨ k = 2 ∨ k = 3 := by omega
        rcases hk3 with rfl | rfl | rfl | rfl <;> omega
      have hv0 := hvb.1
      have hsn : val ((bytesOf s).take (k + 1)) = val ((bytesOf s).take k) * 256 + (s[k].toNat : Int) := by
        rw [List.take_succ_eq_append_getElem hlt', val_snoc]; rfl
      have HS := Lib.hid hsn
      have hby : (s[k].toNat : Int) < 256 := by have := UInt8.toNat_lt s[k]; omega
      clear hsn hvb hx hlt'
      go_wp2
      go_round
      case rel => exact ⟨k + 1, by omega, by go_num, by rw [HS.out]; congr 1; omega⟩
      case measure => simp [intOf]; omega
    · have hk' : k = n := by omega
      have HV : Hid (val ((bytesOf s).take k) = val ((bytesOf s).take n)) := by
        show _ = _
        rw [hk']
      clear hk'
      go_wp2
      go_ret
      exact ⟨by rw [← HV.out]; rfl, h.set 0 _, (Fr.refl (fun k => k = b) w).setCell (p := ⟨b, 0, none⟩) (.inl rfl) _⟩
theorem mrnum_any {w : World} {b : Nat} {r : Rs} (h : Rm w b r.s r.bad) (n : Nat) (hn : n ≤ 4) :
    Calls Try.prog 44 #[.pointer (some ⟨b, 0, none⟩), .int .i64 (n : Int)] w fun e w' => e = .returned (.int .i64 (val (bytesOf (r.tk n)))) ∧ Rm w' b (r.aft n).s (r.aft n).bad ∧ Fr (fun k => k = b) w w' := by
  rw [Rs.tk_bytes]
  unfold Rs.aft
  by_cases hno : r.no n = true
  · rw [if_pos hno, if_pos hno]
    exact mrnum_no h n hno
  · rw [if_neg hno, if_neg hno]
    have hb : r.bad = false := by
      have : ¬ r.bad = true := fun e => hno (by unfold Rs.no; rw [e]; rfl)
      simpa using this
    have hle : n ≤ r.s.size := by
      have : ¬ r.s.size < n := fun e => hno (by unfold Rs.no; simp [e])
      omega
    rw [hb] at h
    exact mrnum_yes h n hn hle
end Go.Proofs.Ytmohefkingnknaa.Pa

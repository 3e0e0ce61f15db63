/- The contract of the document's reader: Text. -/
import Derived.Test.YtjhggjbfbgfekaaMread
namespace Go.Proofs.Ytjhggjbfbgfekaa
open Go.RowKit

set_option maxRecDepth 100000 in
set_option maxHeartbeats 800000 in
/-- the text that can't be had -/
theorem mrtext_no {w : World} {b : Nat} {r : Rs} (h : Rm w b r.s r.bad) (hno : r.no r.size = true) :
    Calls Try.prog 25 #[.pointer (some ⟨b, 0, none⟩)] w fun e w' => e = .returned (.string ⟨#[]⟩) ∧ Rm w' b r.s true ∧ Fr (fun k => k = b) w w' := by
  have c0 : w.cell? ⟨b, 0, none⟩ = some (.string r.s) := (h.cell 0).trans rfl
  have c1 : w.cell? ⟨b, 1, none⟩ = some (.bool r.bad) := (h.cell 1).trans rfl
  have f1 : w.frozen? ⟨b, 1, none⟩ = false := h.frozen 1
  obtain ⟨s, bad⟩ := r
  simp only at c0 c1 ⊢
  cases bad with
  | true =>
    clear hno
    go_enter Try.func25, Try.ntmps25
    go_wp2
    go_quiet (fail)
    go_wp2
    go_ret
    exact ⟨rfl, h.set 1 _, ((Fr.refl (fun k => k = b) w).drewN nq).setCell (p := ⟨b, 1, none⟩) (.inl rfl) _⟩
  | false =>
    by_cases h0 : s.size = 0
    · have hd : ((s.size : Int) == 0) = true := by simp [h0]
      have e1 : s = ⟨#[]⟩ := by
        apply ByteArray.ext
        exact Array.eq_empty_of_size_eq_zero h0
      subst e1
      clear hno h0 hd
      go_enter Try.func25, Try.ntmps25
      go_wp2
      go_quiet (fail)
      go_wp2
      go_ret
      exact ⟨rfl, h.set 1 _, ((Fr.refl (fun k => k = b) w).drewN nq).setCell (p := ⟨b, 1, none⟩) (.inl rfl) _⟩
    · have hpos : 0 < s.size := by omega
      have hsz : (Rs.mk s false).size = 1 + s[0].toNat := by
        unfold Rs.size
        have hl := bytesOf_length s
        rcases hbo : bytesOf s with _ | ⟨x, l⟩
        · rw [hbo] at hl; simp at hl; omega
        · have : s[0] = (bytesOf s)[0]'(by rw [bytesOf_length]; exact hpos) := rfl
          rw [this]
          simp only [hbo, List.getElem_cons_zero]
      rw [hsz] at hno
      have hlt : s.size < 1 + s[0].toNat := by simpa [Rs.no] using hno
      have hby : (s[0].toNat : Int) < 256 := by have := UInt8.toNat_lt s[0]; omega
      have hz : ((s.size : Int) == 0) = false := beq_eq_false_iff_ne.2 (by omega)
      have hd : decide ((s.size : Int) - (1 : Int) < (s[0].toNat : Int)) = true := decide_eq_true (by omega)
      clear hno hsz h0
      go_enter Try.func25, Try.ntmps25
      go_wp2
      go_quiet (fail)
      go_wp2
      go_ret
      exact ⟨rfl, h.set 1 _, ((Fr.refl (fun k => k = b) w).drewN nq).setCell (p := ⟨b, 1, none⟩) (.inl rfl) _⟩

set_option maxRecDepth 100000 in
set_option maxHeartbeats 800000 in
/-- the text that is there whole -/
theorem mrtext_yes {w : World} {b : Nat} {s : ByteArray} (h : Rm w b s false) (hpos : 0 < s.size) (hlt : 1 + s[0].toNat ≤ s.size) (hmax : s.size ≤ 140737488355328) :
    Calls Try.prog 25 #[.pointer (some ⟨b, 0, none⟩)] w fun e w' => e = .returned (.string (s.extract 1 (1 + s[0].toNat))) ∧ Rm w' b (s.extract (1 + s[0].toNat) s.size) false ∧ Fr (fun k => k = b) w w' := by
  have c0 : w.cell? ⟨b, 0, none⟩ = some (.string s) := (h.cell 0).trans rfl
  have c1 : w.cell? ⟨b, 1, none⟩ = some (.bool false) := (h.cell 1).trans rfl
  have f0 : w.frozen? ⟨b, 0, none⟩ = false := h.frozen 0
  have hby : (s[0].toNat : Int) < 256 := by have := UInt8.toNat_lt s[0]; omega
  have hz : ((s.size : Int) == 0) = false := beq_eq_false_iff_ne.2 (by omega)
  have hd : decide ((s.size : Int) - (1 : Int) < (s[0].toNat : Int)) = false := decide_eq_false (by omega)
  have hsl : ∀ W, (Instr.slice 9 (.string s) (some (.int .i64 1)) (some (.int .i64 ((1 : Int) + (s[0].toNat : Int)))) none).run Try.prog W = .ok (.string (s.extract 1 (1 + s[0].toNat))) W := fun W => by
    have k := run_slice_string (P := Try.prog) (w := W) 9 s .i64 .i64 1 ((1 : Int) + (s[0].toNat : Int)) Try.underlying9 (by decide) (by omega) (by omega)
    rw [show ((1 : Int) + (s[0].toNat : Int)).toNat = 1 + s[0].toNat from by omega] at k
    exact k
  have hsl2 : ∀ W, (Instr.slice 9 (.string s) (some (.int .i64 ((1 : Int) + (s[0].toNat : Int)))) none none).run Try.prog W = .ok (.string (s.extract (1 + s[0].toNat) s.size)) W := fun W => by
    have k := run_slice_string_l (P := Try.prog) (w := W) (t := 9) (ht := Try.underlying9) (s := s) .i64 ((1 : Int) + (s[0].toNat : Int)) (by omega) (by omega)
    rw [show ((1 : Int) + (s[0].toNat : Int)).toNat = 1 + s[0].toNat from by omega] at k
    exact k
  go_enter Try.func25, Try.ntmps25
  go_wp2
  go_quiet (fail)
  go_wp2
  go_ret
  exact ⟨rfl, h.set 0 _, ((Fr.refl (fun k => k = b) w).drewN nq).setCell (p := ⟨b, 0, none⟩) (.inl rfl) _⟩
theorem mrtext_any {w : World} {b : Nat} {r : Rs} (h : Rm w b r.s r.bad) (hmax : r.s.size ≤ 140737488355328) :
    Calls Try.prog 25 #[.pointer (some ⟨b, 0, none⟩)] w fun e w' => e = .returned (.string r.txt) ∧ Rm w' b (r.aft r.size).s (r.aft r.size).bad ∧ Fr (fun k => k = b) w w' := by
  by_cases hno : r.no r.size = true
  · have e1 : r.txt = ⟨#[]⟩ := by
      unfold Rs.txt Rs.tk
      rw [if_pos hno]
      rfl
    have e2 : r.aft r.size = ⟨r.s, true⟩ := by
      unfold Rs.aft
      rw [if_pos hno]
    rw [e1, e2]
    exact mrtext_no (r := r) h hno
  · have hb : r.bad = false := by
      have : ¬ r.bad = true := fun e => hno (by unfold Rs.no; rw [e]; rfl)
      simpa using this
    have hle : r.size ≤ r.s.size := by
      have : ¬ r.s.size < r.size := fun e => hno (by unfold Rs.no; simp [e])
      omega
    have hpos : 0 < r.s.size := by have := (Rs.size_bd r).1; omega
    have hsz : r.size = 1 + r.s[0].toNat := by
      unfold Rs.size
      have hl := bytesOf_length r.s
      rcases hbo : bytesOf r.s with _ | ⟨x, l⟩
      · rw [hbo] at hl; simp at hl; omega
      · have : r.s[0] = (bytesOf r.s)[0]'(by rw [bytesOf_length]; exact hpos) := rfl
        rw [this]
        simp only [hbo, List.getElem_cons_zero]
    have e2 : r.aft r.size = ⟨r.s.extract r.size r.s.size, false⟩ := by
      unfold Rs.aft
      rw [if_neg hno]
    have e1 : r.txt = r.s.extract 1 r.size := by
      apply bytesOf_inj
      unfold Rs.txt
      rw [bytesOf_extract, size_of, List.take_length, Rs.tk_bytes, if_neg hno, bytesOf_extract]
    rw [hb] at h
    rw [e1, e2, hsz]
    exact mrtext_yes h hpos (by omega) hmax
end Go.Proofs.Ytjhggjbfbgfekaa

/- The contracts of the reader: Byte, Word, Long, Text. -/
import Derived.Test.YtjhggjbfbgfekaaClone
namespace Go.Proofs.Ytjhggjbfbgfekaa
open Go.RowKit

/-- how many bytes the next text takes, its length's byte among them -/
def Rs.size (r : Rs) : Nat := match bytesOf r.s with | [] => 1 | b :: _ => 1 + b.toNat
theorem Rs.size_bd (r : Rs) : 1 ≤ r.size ∧ r.size ≤ 256 := by
  unfold Rs.size
  split
  · omega
  · rename_i b _ _
    have := UInt8.toNat_lt b
    omega
theorem Rs.tk_size (r : Rs) (n : Nat) : (r.tk n).size ≤ n := by
  unfold Rs.tk; split
  · simp [ByteArray.size]
  · simp [ByteArray.size_extract]; omega
/-- the next text -/
def Rs.txt (r : Rs) : ByteArray := (r.tk r.size).extract 1 (r.tk r.size).size

theorem rbyte_any {w : World} {b : Nat} {r : Rs} (h : Re w b r.s r.bad) :
    Calls Try.prog 20 #[.pointer (some ⟨b, 0, none⟩)] w fun e w' => e = .returned (.int .i64 (val (bytesOf (r.tk 1)))) ∧ Re w' b (r.aft 1).s (r.aft 1).bad ∧ Fr (fun k => k = b) w w' := by
  have K := number_any h 1 (by omega)
  go_enter Try.func20, Try.ntmps20
  go_wp2_with (go_at_call 37; refine K.mono ?_; rintro e w1 ⟨rfl, hw1, hf1⟩)
  go_ret
  exact ⟨rfl, hw1, hf1⟩
theorem rword_any {w : World} {b : Nat} {r : Rs} (h : Re w b r.s r.bad) :
    Calls Try.prog 22 #[.pointer (some ⟨b, 0, none⟩)] w fun e w' => e = .returned (.int .i64 (val (bytesOf (r.tk 2)))) ∧ Re w' b (r.aft 2).s (r.aft 2).bad ∧ Fr (fun k => k = b) w w' := by
  have K := number_any h 2 (by omega)
  go_enter Try.func22, Try.ntmps22
  go_wp2_with (go_at_call 37; refine K.mono ?_; rintro e w1 ⟨rfl, hw1, hf1⟩)
  go_ret
  exact ⟨rfl, hw1, hf1⟩
theorem rlong_any {w : World} {b : Nat} {r : Rs} (h : Re w b r.s r.bad) :
    Calls Try.prog 23 #[.pointer (some ⟨b, 0, none⟩)] w fun e w' => e = .returned (.int .i64 (val (bytesOf (r.tk 4)))) ∧ Re w' b (r.aft 4).s (r.aft 4).bad ∧ Fr (fun k => k = b) w w' := by
  have K := number_any h 4 (by omega)
  go_enter Try.func23, Try.ntmps23
  go_wp2_with (go_at_call 37; refine K.mono ?_; rintro e w1 ⟨rfl, hw1, hf1⟩)
  go_ret
  exact ⟨rfl, hw1, hf1⟩

set_option maxHeartbeats 400000 in
theorem rtext_any {w : World} {b : Nat} {r : Rs} (h : Re w b r.s r.bad) :
    Calls Try.prog 24 #[.pointer (some ⟨b, 0, none⟩)] w fun e w' => e = .returned (.string r.txt) ∧ Re w' b (r.aft r.size).s (r.aft r.size).bad ∧ Fr (fun k => k = b) w w' := by
  have c0 : w.cell? ⟨b, 0, none⟩ = some (.string r.s) := (h.cell 0).trans rfl
  have K := take_any h r.size
  have hb := Rs.size_bd r
  have ht := Rs.tk_size r r.size
  have hsz : (r.s.size = 0 ∧ r.size = 1) ∨ ∃ x : UInt8, r.s.size ≠ 0 ∧ r.s.data[0]? = some x ∧ r.size = 1 + x.toNat := by
    unfold Rs.size
    have hl := bytesOf_length r.s
    rcases hbo : bytesOf r.s with _ | ⟨x, l⟩
    · left; rw [hbo] at hl; exact ⟨by simpa using hl.symm, rfl⟩
    · right
      refine ⟨x, by rw [hbo] at hl; simp at hl; omega, ?_, rfl⟩
      have : (bytesOf r.s)[0]? = some x := by rw [hbo]; rfl
      simpa [bytesOf] using this
  unfold Rs.txt
  generalize r.tk r.size = t at *
  generalize r.aft r.size = r' at *
  generalize r.size = n at *
  obtain ⟨s, bad⟩ := r
  simp only at c0 hsz
  have fin0 : t.size = 0 → t.extract 1 t.size = ⟨#[]⟩ := fun h => by
    have e : t = ⟨#[]⟩ := by
      apply ByteArray.ext
      exact Array.eq_empty_of_size_eq_zero h
    rw [e]; rfl
  have ht' : (t.extract 1 t.size).size ≤ 140737488355328 := by simp [ByteArray.size_extract]; omega
  rcases hsz with ⟨h0, rfl⟩ | ⟨x, h0, hx, rfl⟩
  · have hs : s.toList = [] := by simpa using toList_none h0
    by_cases htz : t.size = 0
    · have htl : t.toList = [] := by simpa using toList_none htz
      rw [fin0 htz]
      clear fin0 hb ht h0 htz ht'
      go_enter Try.func24, Try.ntmps24
      go_wp2_with (go_at_call 38; refine K.mono ?_; rintro e w1 ⟨rfl, hw1, hf1⟩)
      go_ret
      exact ⟨rfl, hw1, hf1⟩
    · have htl : (!t.toList.isEmpty) = true := toList_some htz
      have htl2 : t.toList.isEmpty = false := by simpa using htl
      have K2 := fun W => sclone_any (t.extract 1 t.size) W ht'
      have ht1 : 1 ≤ t.size := by omega
      have ht2 : (t.size : Int) ≤ 256 := by omega
      clear fin0 h0 htz ht'
      go_enter Try.func24, Try.ntmps24
      go_wp2_with (first | (go_at_call 38; refine K.mono ?_; rintro e w1 ⟨rfl, hw1, hf1⟩) | (go_at_call 39; refine (K2 _).mono ?_; rintro e w2 ⟨rfl, hf2⟩))
      go_ret
      exact ⟨rfl, Is.fr hw1 hf2 id, hf1.trans hf2 (fun _ _ h => h.elim)⟩
  · have hs : (!s.toList.isEmpty) = true := toList_some h0
    have hs2 : s.toList.isEmpty = false := by simpa using hs
    have hs3 : 0 < s.size := by omega
    have hx' : x = s[0] := by
      have : s.data[0]? = some s.data[0] := Array.getElem?_eq_getElem hs3
      rw [this] at hx
      injection hx with hx
      exact hx.symm
    subst hx'
    have hxb : (s[0].toNat : Int) < 256 := by have := UInt8.toNat_lt s[0]; omega
    rw [Int.natCast_add] at K
    clear hx hs h0
    by_cases htz : t.size = 0
    · have htl : t.toList = [] := by simpa using toList_none htz
      rw [fin0 htz]
      clear fin0 hb ht htz ht'
      go_enter Try.func24, Try.ntmps24
      go_wp2_with (go_at_call 38; refine K.mono ?_; rintro e w1 ⟨rfl, hw1, hf1⟩)
      go_ret
      exact ⟨rfl, hw1, hf1⟩
    · have htl : (!t.toList.isEmpty) = true := toList_some htz
      have htl2 : t.toList.isEmpty = false := by simpa using htl
      have K2 := fun W => sclone_any (t.extract 1 t.size) W ht'
      have ht1 : 1 ≤ t.size := by omega
      have ht2 : (t.size : Int) ≤ 256 := by omega
      clear fin0 htz ht' ht hb
      go_enter Try.func24, Try.ntmps24
      go_wp2_with (first | (go_at_call 38; refine K.mono ?_; rintro e w1 ⟨rfl, hw1, hf1⟩) | (go_at_call 39; refine (K2 _).mono ?_; rintro e w2 ⟨rfl, hf2⟩))
      go_ret
      exact ⟨rfl, Is.fr hw1 hf2 id, hf1.trans hf2 (fun _ _ h => h.elim)⟩
end Go.Proofs.Ytjhggjbfbgfekaa

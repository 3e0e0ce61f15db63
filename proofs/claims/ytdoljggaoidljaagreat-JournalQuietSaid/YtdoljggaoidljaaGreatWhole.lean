/- The contracts of the journal's whole, rest, pageOf, and of strings.HasPrefix at the mark. -/
import Derived.Test.YtdoljggaoidljaaGreatSseal
import Derived.Test.YtdoljggaoidljaaGreatPclone
import Derived.Test.YtdoljggaoidljaaGreatSheet
namespace Go.Proofs.YtdoljggaoidljaaGreat
open Go.RowKit

theorem bytes_eq {a b : ByteArray} (h : bytesOf a = bytesOf b) : a = b := by
  apply ByteArray.ext
  exact Array.toList_inj.1 h
theorem bytesOf_at (s : ByteArray) (i : Nat) : (bytesOf s)[i]? = s.data[i]? := by unfold bytesOf; rw [Array.getElem?_toList]
theorem toList_ne {a b : ByteArray} (h : a ≠ b) : (a.toList == b.toList) = false := by
  rw [beq_eq_false_iff_ne]
  intro e
  apply h
  rw [ByteArray.toList_eq, ByteArray.toList_eq] at e
  exact ByteArray.ext (Array.toList_inj.1 e)
theorem first_is (s : ByteArray) (h : 1 ≤ s.size) : s.extract 0 1 = ⟨#[s.data[0]'h]⟩ := by
  apply bytes_eq
  rw [bytesOf_extract]
  unfold bytesOf
  have hl : 0 < s.data.toList.length := by rw [Array.length_toList]; exact h
  rw [List.drop_zero]
  match hq : s.data.toList, hl with
  | x :: r, _ =>
    have e : s.data[0]'h = x := by
      have e1 : s.data.toList[0]? = some x := by rw [hq]; rfl
      rw [Array.getElem?_toList, Array.getElem?_eq_getElem h] at e1
      injection e1
    rw [e]
    rfl
theorem prefix0_any (s : ByteArray) (hs : s.size ≤ 140737488355328) (w : World) :
    Calls Tryz.prog 82 #[.string s, .string ⟨#[0]⟩] w fun e w' => e = .returned (.bool (decide ((bytesOf s)[0]? = some 0))) ∧ w' = w := by
  by_cases h : 1 ≤ s.size
  · have hf := first_is s h
    have h0 : (bytesOf s)[0]? = some (s.data[0]'h) := by rw [bytesOf_at, Array.getElem?_eq_getElem h]
    rw [h0]
    generalize s.data[0]'h = x at hf
    have hd : decide ((1 : Int) ≤ (s.size : Int)) = true := by simp; omega
    by_cases hx : x = 0
    · subst hx
      have hb : ((⟨#[0]⟩ : ByteArray).toList == (⟨#[0]⟩ : ByteArray).toList) = true := by simp
      clear h0
      go_enter Tryz.func82, Tryz.ntmps82
      go_wp2
      go_ret
      exact ⟨rfl, rfl⟩
    · have hb : (some x = some (0 : UInt8)) = False := by simp [hx]
      have hq : ((⟨#[x]⟩ : ByteArray).toList == (⟨#[0]⟩ : ByteArray).toList) = false := toList_ne fun e => hx (by injection e with e; injection e with e; injection e)
      clear h0
      go_enter Tryz.func82, Tryz.ntmps82
      go_wp2
      go_ret
      exact ⟨by simp [hx], rfl⟩
  · have hz : s = ⟨#[]⟩ := by
      apply ByteArray.ext
      exact Array.eq_empty_of_size_eq_zero (by have : s.data.size = s.size := rfl; omega)
    subst hz
    clear h hs
    go_enter Tryz.func82, Tryz.ntmps82
    go_wp2
    go_ret
    exact ⟨rfl, rfl⟩
theorem prefix_any (s : ByteArray) (hs : s.size ≤ 140737488355328) (w : World) :
    Calls Tryz.prog 59 #[.string s, .string ⟨#[0]⟩] w fun e w' => e = .returned (.bool (decide ((bytesOf s)[0]? = some 0))) ∧ w' = w := by
  have K := prefix0_any s hs w
  generalize decide ((bytesOf s)[0]? = some 0) = b at *
  go_enter Tryz.func59, Tryz.ntmps59
  go_wp2_with (go_at_call 82; refine K.mono ?_; rintro e w' ⟨rfl, rfl⟩)
  go_ret
  exact ⟨rfl, rfl⟩
theorem pageOf_any (n : Nat) (hn : n ≤ 4611686018427387904) (w : World) :
    Calls Tryz.prog 30 #[.int .i64 (n : Int)] w fun e w' => e = .returned (.int .i64 ((n % 24 : Nat) : Int)) ∧ w = w' := by
  have h1 : (n : Int).tmod 24 = ((n % 24 : Nat) : Int) := by rw [Int.tmod_eq_emod_of_nonneg (by omega)]; omega
  go_enter Tryz.func30, Tryz.ntmps30
  go_wp2
  go_ret
  exact ⟨by first | rfl | (rw [← h1]; rfl), rfl⟩
theorem rest_any {w : World} {b : Nat} {r : Pa.Rs} (h : Pa.Re w b r.s r.bad) (s : ByteArray) (hl : r.s.size ≤ s.size) (hs : s.size ≤ 140737488355328) :
    Calls Tryz.prog 45 #[.string s, .pointer (some ⟨b, 0, none⟩)] w fun e w' => e = .returned (.string (s.extract (s.size - r.s.size) s.size)) ∧ w = w' := by
  have K := Pa.left_any h
  obtain ⟨k, hk⟩ : ∃ k : Nat, s.size = k + r.s.size := ⟨s.size - r.s.size, by omega⟩
  have e1 : (s.size : Int) - (r.s.size : Int) = (k : Int) := by omega
  have e2 : s.size - r.s.size = k := by omega
  rw [e2]
  have hk2 : k ≤ s.size := by omega
  clear h hk e2 hl
  generalize r.s.size = q at *
  go_enter Tryz.func45, Tryz.ntmps45
  go_wp2_with (go_at_call 61; refine K.mono ?_; rintro e w' ⟨rfl, rfl⟩)
  go_ret
  exact ⟨rfl, rfl⟩
end Go.Proofs.YtdoljggaoidljaaGreat

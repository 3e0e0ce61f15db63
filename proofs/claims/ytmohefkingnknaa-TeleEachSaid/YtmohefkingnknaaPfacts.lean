/- Plain facts on texts, numbers and readers: what is written is read again. Nothing here walks the program. -/
import Derived.Test.YtmohefkingnknaaPclone
namespace Go.Proofs.Ytmohefkingnknaa.Pa
open Go.RowKit


namespace Rs
theorem tk_bytes (r : Rs) (n : Nat) : bytesOf (r.tk n) = if r.no n = true then [] else (bytesOf r.s).take n := by
  unfold tk; split
  · rfl
  · rw [bytesOf_extract]; rfl
theorem aft_bytes (r : Rs) (n : Nat) : bytesOf (r.aft n).s = if r.no n = true then bytesOf r.s else (bytesOf r.s).drop n := by
  unfold aft; split
  · rfl
  · rw [bytesOf_extract, size_of, List.take_length]
theorem aft_bad (r : Rs) (n : Nat) : (r.aft n).bad = r.no n := by
  unfold aft; split
  · rename_i h; rw [h]
  · rename_i h; simpa using h
/-- a reader of a text that begins with l -/
theorem read_tk {r : Rs} {l k : List UInt8} (hb : r.bad = false) (h : bytesOf r.s = l ++ k) : bytesOf (r.tk l.length) = l ∧ bytesOf (r.aft l.length).s = k ∧ (r.aft l.length).bad = false := by
  have hn : r.no l.length = false := by
    unfold no; rw [hb, size_of, h]; simp
  rw [tk_bytes, aft_bytes, aft_bad, hn, h]
  simp
theorem read_short {r : Rs} {n : Nat} (h : (bytesOf r.s).length < n) : bytesOf (r.tk n) = [] ∧ (r.aft n).s = r.s ∧ (r.aft n).bad = true := by
  have hn : r.no n = true := by
    unfold no; rw [size_of]; simp [h]
  rw [tk_bytes, aft_bad, hn]
  refine ⟨rfl, ?_, rfl⟩
  unfold aft; rw [if_pos hn]
theorem read_bad {r : Rs} {n : Nat} (h : r.bad = true) : bytesOf (r.tk n) = [] ∧ (r.aft n).s = r.s ∧ (r.aft n).bad = true := by
  have hn : r.no n = true := by unfold no; rw [h]; rfl
  rw [tk_bytes, aft_bad, hn]
  refine ⟨rfl, ?_, rfl⟩
  unfold aft; rw [if_pos hn]
end Rs

theorem dig_toNat (width : Nat) (n : Int) (i : Nat) : ((Pk.dig width n i).toNat : Int) = n / 2 ^ (8 * (width - 1 - i)) % 256 := by
  have := dig_cell width n i _ rfl
  unfold B at this
  injection this
theorem val_digits {width : Nat} (hw : Wid width) {n : Int} (hf : Pk.fits width n = true) : val (Pk.digits width n) = n := by
  unfold Pk.fits at hf
  simp only [Bool.and_eq_true, decide_eq_true_eq] at hf
  obtain ⟨h0, h1⟩ := hf
  unfold val Pk.digits
  rcases hw with rfl | rfl | rfl
  · simp only [List.range, List.range.loop, List.map, List.foldl, dig_toNat]
    simp at h1 ⊢; omega
  · simp only [List.range, List.range.loop, List.map, List.foldl, dig_toNat]
    simp at h1 ⊢; omega
  · simp only [List.range, List.range.loop, List.map, List.foldl, dig_toNat]
    simp at h1 ⊢; omega
theorem fits_of {width : Nat} {n : Int} (h0 : 0 ≤ n) (h1 : n < 2 ^ (8 * width)) : Pk.fits width n = true := by simp [Pk.fits, h0, h1]

/-- two writers (or a writer and another thing) lie apart -/
def Sep (b : Nat) (F : Option Nat) (b2 : Nat) (F2 : Option Nat) : Prop := b ≠ b2 ∧ F2 ≠ some b ∧ F ≠ some b2 ∧ ∀ k, F = some k → F2 ≠ some k
theorem Sep.symm {b b2 : Nat} {F F2 : Option Nat} (h : Sep b F b2 F2) : Sep b2 F2 b F := ⟨fun e => h.1 e.symm, h.2.2.1, h.2.1, fun k h2 h1 => h.2.2.2 k h1 h2⟩
theorem Sep.new {b b2 : Nat} {F : Option Nat} (hb : b ≠ b2) (hF : F ≠ some b2) : Sep b F b2 none := ⟨hb, (fun h => by cases h), hF, (fun _ _ h => by cases h)⟩
theorem Sep.mv {w w' : World} {b b2 : Nat} {F F2 F2' : Option Nat} (h : Sep b F b2 F2) (m : Mv w w' b2 F2 F2') (hb : b < w.heap.size) (hF : ∀ k, F = some k → k < w.heap.size) : Sep b F b2 F2' := by
  refine ⟨h.1, ?_, h.2.2.1, fun k hk => ?_⟩
  · rcases m.2 with e | ⟨g, e, hg⟩
    · rw [e]; exact h.2.1
    · rw [e]; intro e'; injection e' with e'; omega
  · rcases m.2 with e | ⟨g, e, hg⟩
    · rw [e]; exact h.2.2.2 k hk
    · rw [e]; intro e'; injection e' with e'; have := hF k hk; omega
theorem Wr.mv {w w' : World} {b b2 : Nat} {F F2 F2' : Option Nat} {s : Pk.S} (h : Wr w b F s) (m : Mv w w' b2 F2 F2') (hs : Sep b F b2 F2) : Wr w' b F s := by
  refine h.fr m.1 ?_ ?_
  · rintro (e | e)
    · exact hs.1 e
    · exact hs.2.1 e
  · rintro k hk (e | e)
    · exact hs.2.2.1 (e ▸ hk)
    · exact hs.2.2.2 k hk e
end Go.Proofs.Ytmohefkingnknaa.Pa

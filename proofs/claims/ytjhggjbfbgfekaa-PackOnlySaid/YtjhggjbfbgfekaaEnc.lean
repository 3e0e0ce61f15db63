/- Plain facts for PackBack and PackOnly: what a thing is written as, and that it is read again. -/
import Derived.Test.YtjhggjbfbgfekaaReads
namespace Go.Proofs.Ytjhggjbfbgfekaa
open Go.RowKit

/-- what a thing is written as -/
def Thing.enc (t : Thing) : List UInt8 :=
  if kindOf t.k = 0 then Pk.digits 1 t.n else if kindOf t.k = 1 then Pk.digits 2 t.n else if kindOf t.k = 2 then Pk.digits 4 t.n else UInt8.ofNat (bytesOf t.x).length :: bytesOf t.x
/-- may it be written? -/
def Thing.fit (t : Thing) : Prop :=
  if kindOf t.k = 0 then Pk.fits 1 t.n = true else if kindOf t.k = 1 then Pk.fits 2 t.n = true else if kindOf t.k = 2 then Pk.fits 4 t.n = true else (bytesOf t.x).length ≤ 255

theorem Pk.S.put_back {s : Pk.S} {t : List UInt8} (h : (s.put t).e = 0) : s.e = 0 ∧ (s.put t).bs = s.bs ++ t := by
  unfold Pk.S.put at *
  by_cases he : s.e = 0
  · rw [if_pos he] at *
    split at h
    · rename_i hf; rw [if_pos hf]; exact ⟨he, rfl⟩
    · simp at h
  · rw [if_neg he] at h; exact absurd h he
theorem Pk.S.num_back {s : Pk.S} {width : Nat} {n : Int} (h : (s.num width n).e = 0) : s.e = 0 ∧ Pk.fits width n = true ∧ (s.num width n).bs = s.bs ++ Pk.digits width n := by
  unfold Pk.S.num at *
  by_cases hf : Pk.fits width n = true
  · rw [if_pos hf] at *
    exact ⟨(Pk.S.put_back h).1, hf, (Pk.S.put_back h).2⟩
  · rw [if_neg hf] at h
    exact absurd h (Pk.S.fail_e (by decide))
theorem Pk.S.text_back {s : Pk.S} {t : List UInt8} (h : (s.text t).e = 0) : s.e = 0 ∧ t.length ≤ 255 ∧ (s.text t).bs = s.bs ++ (UInt8.ofNat t.length :: t) := by
  unfold Pk.S.text at *
  by_cases hf : t.length ≤ 255
  · rw [if_pos hf] at *
    exact ⟨(Pk.S.put_back h).1, hf, (Pk.S.put_back h).2⟩
  · rw [if_neg hf] at h
    exact absurd h (Pk.S.fail_e (by decide))
theorem Pk.S.item_back {s : Pk.S} (t : Thing) (h : (s.item t.k t.n t.x).e = 0) : s.e = 0 ∧ t.fit ∧ (s.item t.k t.n t.x).bs = s.bs ++ t.enc := by
  unfold Pk.S.item Thing.fit Thing.enc at *
  split
  · rename_i h0; rw [if_pos h0] at *; exact Pk.S.num_back h
  · rename_i h0; rw [if_neg h0] at *
    split
    · rename_i h1; rw [if_pos h1] at *; exact Pk.S.num_back h
    · rename_i h1; rw [if_neg h1] at *
      split
      · rename_i h2; rw [if_pos h2] at *; exact Pk.S.num_back h
      · rename_i h2; rw [if_neg h2] at *; exact Pk.S.text_back h
theorem Pk.S.items_back {s : Pk.S} (l : List Thing) (h : (s.items l).e = 0) : s.e = 0 ∧ (∀ t ∈ l, t.fit) ∧ (s.items l).bs = s.bs ++ l.flatMap Thing.enc := by
  induction l generalizing s with
  | nil => exact ⟨h, by simp, by simp [Pk.S.items]⟩
  | cons t l ih =>
    obtain ⟨h1, h2, h3⟩ := ih (s := s.item t.k t.n t.x) h
    obtain ⟨k1, k2, k3⟩ := Pk.S.item_back t h1
    refine ⟨k1, ?_, ?_⟩
    · intro u hu
      rcases List.mem_cons.1 hu with rfl | hu
      · exact k2
      · exact h2 u hu
    · show ((s.item t.k t.n t.x).items l).bs = _
      rw [h3, k3, List.flatMap_cons, List.append_assoc]

/-- a number that is read as it was written -/
theorem read_enc {r : Rs} {width : Nat} (hw : Wid width) {n : Int} {rest : List UInt8} (hf : Pk.fits width n = true) (hb : r.bad = false) (h : bytesOf r.s = Pk.digits width n ++ rest) :
    val (bytesOf (r.tk width)) = n ∧ bytesOf (r.aft width).s = rest ∧ (r.aft width).bad = false := by
  have k := Rs.read_tk (l := Pk.digits width n) hb h
  rw [Pk.digits_length] at k
  exact ⟨by rw [k.1, val_digits hw hf], k.2.1, k.2.2⟩
theorem read_text {r : Rs} {x : ByteArray} {rest : List UInt8} (hl : (bytesOf x).length ≤ 255) (hb : r.bad = false) (h : bytesOf r.s = (UInt8.ofNat (bytesOf x).length :: bytesOf x) ++ rest) :
    r.txt = x ∧ bytesOf (r.aft r.size).s = rest ∧ (r.aft r.size).bad = false := by
  have hsz : r.size = (UInt8.ofNat (bytesOf x).length :: bytesOf x).length := by
    unfold Rs.size
    rw [h]
    simp only [List.cons_append, List.length_cons, UInt8.toNat_ofNat']
    omega
  have k := Rs.read_tk (l := UInt8.ofNat (bytesOf x).length :: bytesOf x) hb h
  rw [← hsz] at k
  refine ⟨?_, k.2.1, k.2.2⟩
  apply bytesOf_inj
  unfold Rs.txt
  rw [bytesOf_extract, size_of, List.take_length, k.1]
  rfl
end Go.Proofs.Ytjhggjbfbgfekaa

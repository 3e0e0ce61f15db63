/- Plain facts for PackOnly: what is read to the end is written as just the text that was read. -/
import Derived.Test.YtjhggjbfbgfekaaEnc
namespace Go.Proofs.Ytjhggjbfbgfekaa
open Go.RowKit

theorem byte_of (b : UInt8) (m : Int) (h : m = (b.toNat : Int)) (width : Nat) (n : Int) (i : Nat) (hm : n / 2 ^ (8 * (width - 1 - i)) % 256 = m) : Pk.dig width n i = b := by
  apply UInt8.toNat_inj.1
  have := dig_toNat width n i
  omega
theorem val1 (a : UInt8) : val [a] = (a.toNat : Int) := by simp [val]
theorem val2 (a b : UInt8) : val [a, b] = (a.toNat : Int) * 256 + (b.toNat : Int) := by simp [val]
theorem val4 (a b c d : UInt8) : val [a, b, c, d] = (((a.toNat : Int) * 256 + (b.toNat : Int)) * 256 + (c.toNat : Int)) * 256 + (d.toNat : Int) := by simp [val]
theorem digits_val1 (a : UInt8) : Pk.digits 1 (val [a]) = [a] := by
  have ha := UInt8.toNat_lt a
  rw [val1]
  show [Pk.dig 1 _ 0] = _
  rw [byte_of a _ rfl 1 _ 0 (by simp; omega)]
theorem digits_val2 (a b : UInt8) : Pk.digits 2 (val [a, b]) = [a, b] := by
  have ha := UInt8.toNat_lt a
  have hb := UInt8.toNat_lt b
  rw [val2]
  show [Pk.dig 2 _ 0, Pk.dig 2 _ 1] = _
  rw [byte_of a _ rfl 2 _ 0 (by simp; omega), byte_of b _ rfl 2 _ 1 (by simp; omega)]
theorem digits_val4 (a b c d : UInt8) : Pk.digits 4 (val [a, b, c, d]) = [a, b, c, d] := by
  have ha := UInt8.toNat_lt a
  have hb := UInt8.toNat_lt b
  have hc := UInt8.toNat_lt c
  have hd := UInt8.toNat_lt d
  rw [val4]
  show [Pk.dig 4 _ 0, Pk.dig 4 _ 1, Pk.dig 4 _ 2, Pk.dig 4 _ 3] = _
  rw [byte_of a _ rfl 4 _ 0 (by simp; omega), byte_of b _ rfl 4 _ 1 (by simp; omega), byte_of c _ rfl 4 _ 2 (by simp; omega), byte_of d _ rfl 4 _ 3 (by simp; omega)]
theorem digits_val {width : Nat} (hw : Wid width) (l : List UInt8) (hl : l.length = width) : Pk.digits width (val l) = l ∧ Pk.fits width (val l) = true := by
  constructor
  · rcases hw with rfl | rfl | rfl
    · match l, hl with
      | [a], _ => exact digits_val1 a
    · match l, hl with
      | [a, b], _ => exact digits_val2 a b
    · match l, hl with
      | [a, b, c, d], _ => exact digits_val4 a b c d
  · have hb := val_take_bd l width (by omega)
    rw [List.take_of_length_le (by omega)] at hb
    refine fits_of hb.1 ?_
    have : (256 : Int) ^ width = 2 ^ (8 * width) := by
      rcases hw with rfl | rfl | rfl <;> rfl
    omega

/-- As long as the reading went well, what was written and what is left are the text. -/
def Only (T : List UInt8) (r : Rs) (s : Pk.S) : Prop := s.L = (T.length : Int) ∧ (r.bad = false → s.e = 0 ∧ s.bs ++ bytesOf r.s = T)

theorem put_only {T t rest : List UInt8} {s : Pk.S} (hL : s.L = (T.length : Int)) (he : s.e = 0) (h : s.bs ++ (t ++ rest) = T) : (s.put t).e = 0 ∧ (s.put t).bs ++ rest = T := by
  have hlen : s.bs.length + (t.length + rest.length) = T.length := by rw [← h, List.length_append, List.length_append]
  unfold Pk.S.put
  rw [if_pos he, if_pos (by omega)]
  exact ⟨he, by rw [← h, List.append_assoc]⟩
theorem Rs.aft_good {r : Rs} {n : Nat} (h : (r.aft n).bad = false) : r.bad = false ∧ bytesOf (r.tk n) = (bytesOf r.s).take n ∧ bytesOf (r.aft n).s = (bytesOf r.s).drop n ∧ n ≤ (bytesOf r.s).length := by
  rw [Rs.aft_bad] at h
  have hb : r.bad = false := by
    have : ¬ r.bad = true := fun e => by unfold Rs.no at h; rw [e] at h; cases h
    simpa using this
  have hn : n ≤ (bytesOf r.s).length := by
    have : ¬ r.s.size < n := fun e => by unfold Rs.no at h; simp [e] at h
    rw [← size_of]; omega
  have hno : ¬ r.no n = true := by rw [h]; decide
  exact ⟨hb, by rw [Rs.tk_bytes, if_neg hno], by rw [Rs.aft_bytes, if_neg hno], hn⟩
theorem only_num {T : List UInt8} {r : Rs} {s : Pk.S} (h : Only T r s) {width : Nat} (hw : Wid width) : Only T (r.aft width) (s.num width (val (bytesOf (r.tk width)))) := by
  refine ⟨by rw [Pk.S.num_L]; exact h.1, fun hg => ?_⟩
  obtain ⟨hb, h1, h2, h3⟩ := Rs.aft_good hg
  obtain ⟨he, hT⟩ := h.2 hb
  obtain ⟨d1, d2⟩ := digits_val hw ((bytesOf r.s).take width) (by rw [List.length_take]; omega)
  rw [h1, h2]
  unfold Pk.S.num
  rw [if_pos d2, d1]
  exact put_only h.1 he (by rw [List.take_append_drop]; exact hT)
theorem only_text {T : List UInt8} {r : Rs} {s : Pk.S} (h : Only T r s) : Only T (r.aft r.size) (s.text (bytesOf r.txt)) := by
  refine ⟨by rw [Pk.S.text_L]; exact h.1, fun hg => ?_⟩
  obtain ⟨hb, h1, h2, h3⟩ := Rs.aft_good hg
  obtain ⟨he, hT⟩ := h.2 hb
  have hsb := Rs.size_bd r
  have hx : bytesOf r.txt = ((bytesOf r.s).take r.size).drop 1 := by
    unfold Rs.txt
    rw [bytesOf_extract, size_of, List.take_length, h1]
  have hcons : UInt8.ofNat (bytesOf r.txt).length :: bytesOf r.txt = (bytesOf r.s).take r.size ∧ (bytesOf r.txt).length ≤ 255 := by
    rw [hx]
    revert h3
    unfold Rs.size
    rcases bytesOf r.s with _ | ⟨b, l⟩
    · intro h3; simp at h3
    · intro h3
      have hb8 := UInt8.toNat_lt b
      simp only [List.length_cons] at h3
      have e : 1 + b.toNat = b.toNat + 1 := by omega
      simp only [e, List.take_succ_cons, List.drop_succ_cons, List.drop_zero, List.length_take, List.cons.injEq, and_true]
      rw [Nat.min_eq_left (by omega)]
      refine ⟨UInt8.toNat_inj.1 ?_, by omega⟩
      rw [UInt8.toNat_ofNat', Nat.mod_eq_of_lt hb8]
  rw [h2]
  unfold Pk.S.text
  rw [if_pos hcons.2, hcons.1]
  exact put_only h.1 he (by rw [List.take_append_drop]; exact hT)
end Go.Proofs.Ytjhggjbfbgfekaa

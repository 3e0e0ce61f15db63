/- Frames as the document has them, as plain functions on lists of bytes: what a frame is, what opening answers; that bodies come back, that nothing else is taken, that spoilt frames are refused. Nothing here speaks of the program. -/
import Derived.Test.YtdoljggaoidljaaGreatCrc
namespace Go.Proofs.YtdoljggaoidljaaGreat.Crc

/-- a length in two bytes; a sum in four -/
def hdr (n : Nat) : List UInt8 := [UInt8.ofNat (n / 256), UInt8.ofNat n]
def four (v : BitVec 32) : List UInt8 := [UInt8.ofNat (v.toNat / 16777216), UInt8.ofNat (v.toNat / 65536), UInt8.ofNat (v.toNat / 256), UInt8.ofNat v.toNat]
/-- a body's frame -/
def frame (b : List UInt8) : List UInt8 := (hdr b.length ++ b) ++ four (sum (hdr b.length ++ b))
theorem frame_length (b : List UInt8) : (frame b).length = b.length + 6 := by simp [frame, hdr, four]
/-- the length that a text tells -/
def told (t : List UInt8) : Nat := t[0]!.toNat * 256 + t[1]!.toNat
/-- what opening answers -/
def openL (t : List UInt8) : List UInt8 × Int :=
  if t.length < 6 then ([], 1) else if 1024 < told t then ([], 2) else if t.length < told t + 6 then ([], 1) else if told t + 6 < t.length then ([], 3)
  else if t.drop (told t + 2) = four (sum (t.take (told t + 2))) then ((t.drop 2).take (told t), 0) else ([], 4)
/-- what is found at the head of a text -/
def headL (t : List UInt8) : List UInt8 × Nat × Int :=
  if t.length < 6 then ([], 0, 1) else if 1024 < told t then ([], 0, 2) else if t.length < told t + 6 then ([], 0, 1)
  else if (t.take (told t + 6)).drop (told t + 2) = four (sum (t.take (told t + 2))) then ((t.drop 2).take (told t), told t + 6, 0) else ([], 0, 4)

theorem told_hdr (n : Nat) (hn : n ≤ 1024) (l : List UInt8) : told (hdr n ++ l) = n := by
  show (UInt8.ofNat (n / 256)).toNat * 256 + (UInt8.ofNat n).toNat = n
  rw [UInt8.toNat_ofNat', UInt8.toNat_ofNat']
  omega
theorem hdr_told (a b : UInt8) (l : List UInt8) : hdr (told (a :: b :: l)) = [a, b] := by
  have ha := UInt8.toNat_lt a
  have hb := UInt8.toNat_lt b
  show [UInt8.ofNat ((a.toNat * 256 + b.toNat) / 256), UInt8.ofNat (a.toNat * 256 + b.toNat)] = _
  have e1 : UInt8.ofNat ((a.toNat * 256 + b.toNat) / 256) = a := by
    apply UInt8.toNat_inj.1
    rw [UInt8.toNat_ofNat']; omega
  have e2 : UInt8.ofNat (a.toNat * 256 + b.toNat) = b := by
    apply UInt8.toNat_inj.1
    rw [UInt8.toNat_ofNat']; omega
  rw [e1, e2]
theorem told_append {t l : List UInt8} (h : 2 ≤ t.length) : told (t ++ l) = told t := by
  match t, h with
  | a :: b :: t, _ => rfl

theorem hdr_take {t : List UInt8} (h : 2 ≤ t.length) : hdr (told t) ++ (t.drop 2).take (told t) = t.take (told t + 2) := by
  match t, h with
  | x :: y :: t, _ =>
    rw [hdr_told x y t]
    generalize told (x :: y :: t) = k
    rfl
/-- the three parts of a frame with something behind it -/
theorem frame_parts (b more : List UInt8) (hb : b.length ≤ 1024) : told (frame b ++ more) = b.length ∧ (frame b ++ more).take (b.length + 2) = hdr b.length ++ b ∧ ((frame b ++ more).take (b.length + 6)).drop (b.length + 2) = four (sum (hdr b.length ++ b)) ∧ ((frame b ++ more).drop 2).take b.length = b := by
  have h2 : (hdr b.length ++ b).length = b.length + 2 := by simp [hdr]
  refine ⟨?_, ?_, ?_, ?_⟩
  · rw [told_append (by rw [frame_length]; omega)]
    unfold frame
    rw [List.append_assoc]
    exact told_hdr _ hb _
  · unfold frame
    rw [List.append_assoc, ← h2, List.take_left]
  · rw [← frame_length, List.take_left]
    unfold frame
    rw [← h2, List.drop_left]
  · unfold frame
    rw [List.append_assoc, List.append_assoc]
    show (b ++ _).take b.length = b
    exact List.take_left
theorem open_frame (b : List UInt8) (hb : b.length ≤ 1024) : openL (frame b) = (b, 0) := by
  obtain ⟨h1, h2, h3, h4⟩ := frame_parts b [] hb
  rw [List.append_nil] at h1 h2 h3 h4
  have hl := frame_length b
  unfold openL
  rw [h1, if_neg (by omega), if_neg (by omega), if_neg (by omega), if_neg (by omega), h2, h4]
  rw [← hl, List.take_length] at h3
  rw [if_pos h3]
theorem head_frame (b more : List UInt8) (hb : b.length ≤ 1024) : headL (frame b ++ more) = (b, b.length + 6, 0) := by
  obtain ⟨h1, h2, h3, h4⟩ := frame_parts b more hb
  have hl := frame_length b
  unfold headL
  rw [h1, List.length_append, if_neg (by omega), if_neg (by omega), if_neg (by omega), h2, h4, if_pos h3]
theorem open_more (b more : List UInt8) (hb : b.length ≤ 1024) (hm : more ≠ []) : openL (frame b ++ more) = ([], 3) := by
  obtain ⟨h1, _⟩ := frame_parts b more hb
  have hl := frame_length b
  have hp : 0 < more.length := List.length_pos_iff.2 hm
  unfold openL
  rw [h1, List.length_append, if_neg (by omega), if_neg (by omega), if_neg (by omega), if_pos (by omega)]
theorem open_cut (b : List UInt8) (hb : b.length ≤ 1024) (n : Nat) (hn : n < b.length + 6) : openL ((frame b).take n) = ([], 1) := by
  have hl := frame_length b
  have hlen : ((frame b).take n).length = n := by rw [List.length_take]; omega
  unfold openL
  rw [hlen]
  by_cases h6 : n < 6
  · rw [if_pos h6]
  · have ht : told ((frame b).take n) = b.length := by
      have h := (frame_parts b [] hb).1
      rw [List.append_nil] at h
      rw [← h]
      have e := told_append (t := (frame b).take n) (l := (frame b).drop n) (by rw [hlen]; omega)
      rw [List.take_append_drop] at e
      exact e.symm
    rw [if_neg h6, ht, if_neg (by omega), if_pos (by omega)]
/-- what opening takes is a frame -/
theorem open_ok {t b : List UInt8} (h : openL t = (b, 0)) : t = frame b ∧ b.length ≤ 1024 := by
  unfold openL at h
  by_cases h1 : t.length < 6
  · rw [if_pos h1] at h; simp at h
  · rw [if_neg h1] at h
    by_cases h2 : 1024 < told t
    · rw [if_pos h2] at h; simp at h
    · rw [if_neg h2] at h
      by_cases h3 : t.length < told t + 6
      · rw [if_pos h3] at h; simp at h
      · rw [if_neg h3] at h
        by_cases h4 : told t + 6 < t.length
        · rw [if_pos h4] at h; simp at h
        · rw [if_neg h4] at h
          by_cases h5 : t.drop (told t + 2) = four (sum (t.take (told t + 2)))
          · rw [if_pos h5] at h
            simp only [Prod.mk.injEq, and_true] at h
            have hbl : b.length = told t := by rw [← h, List.length_take, List.length_drop]; omega
            have e1 : hdr b.length ++ b = t.take (told t + 2) := by
              rw [hbl, ← h]
              exact hdr_take (by omega)
            refine ⟨?_, by omega⟩
            unfold frame
            rw [e1, ← h5, List.take_append_drop]
          · rw [if_neg h5] at h; simp at h
/-- an answer that isn't well has no body -/
theorem open_bad {t b : List UInt8} {e : Int} (h : openL t = (b, e)) (he : e ≠ 0) : b = [] := by
  unfold openL at h
  split at h
  · injection h with h; exact h.symm
  · split at h
    · injection h with h; exact h.symm
    · split at h
      · injection h with h; exact h.symm
      · split at h
        · injection h with h; exact h.symm
        · split at h
          · injection h with _ h2; exact absurd h2.symm he
          · injection h with h; exact h.symm
theorem xor_join (n x k : Nat) (h : x < 2 ^ k) : 2 ^ k * n ^^^ x = 2 ^ k * n + x := by
  apply Nat.eq_of_testBit_eq
  intro i
  rw [Nat.testBit_xor, Nat.testBit_two_pow_mul_add _ h, Nat.testBit_two_pow_mul]
  by_cases hi : i < k
  · rw [if_pos hi]
    simp [Nat.not_le.2 hi]
  · rw [if_neg hi]
    have : x.testBit i = false := Nat.testBit_lt_two_pow (Nat.lt_of_lt_of_le h (Nat.pow_le_pow_right (by decide) (by omega)))
    simp [this, Nat.not_lt.1 hi]
theorem four_word (v : BitVec 32) (a b c d : UInt8) (ha : a = UInt8.ofNat (v.toNat / 16777216)) (hb : b = UInt8.ofNat (v.toNat / 65536)) (hc : c = UInt8.ofNat (v.toNat / 256)) (hd : d = UInt8.ofNat v.toNat) :
    v = top a ^^^ (BitVec.ofNat 32 (b.toNat * 65536) ^^^ (BitVec.ofNat 32 (c.toNat * 256) ^^^ BitVec.ofNat 32 d.toNat)) := by
  have hv := v.isLt
  have a0 : a.toNat = v.toNat / 16777216 % 256 := by rw [ha, UInt8.toNat_ofNat']
  have b0 : b.toNat = v.toNat / 65536 % 256 := by rw [hb, UInt8.toNat_ofNat']
  have c0 : c.toNat = v.toNat / 256 % 256 := by rw [hc, UInt8.toNat_ofNat']
  have d0 : d.toNat = v.toNat % 256 := by rw [hd, UInt8.toNat_ofNat']
  apply BitVec.eq_of_toNat_eq
  unfold top
  rw [BitVec.toNat_xor, BitVec.toNat_xor, BitVec.toNat_xor, BitVec.toNat_ofNat, BitVec.toNat_ofNat, BitVec.toNat_ofNat, BitVec.toNat_ofNat, Nat.mod_eq_of_lt (by omega), Nat.mod_eq_of_lt (by omega), Nat.mod_eq_of_lt (by omega), Nat.mod_eq_of_lt (by omega)]
  have e1 := xor_join c.toNat d.toNat 8 (by omega)
  have e2 := xor_join b.toNat (2 ^ 8 * c.toNat + d.toNat) 16 (by omega)
  have e3 := xor_join a.toNat (2 ^ 16 * b.toNat + (2 ^ 8 * c.toNat + d.toNat)) 24 (by omega)
  rw [show c.toNat * 256 = 2 ^ 8 * c.toNat from by omega, e1, show b.toNat * 65536 = 2 ^ 16 * b.toNat from by omega, e2, show a.toNat * 16777216 = 2 ^ 24 * a.toNat from by omega, e3]
  omega
/-- a register, and its own four bytes: nought -/
theorem four_bytes (v : BitVec 32) : crc v (four v) = 0#32 := by
  refine (crc_own rfl).2 fun a b c d h => ?_
  simp only [four, List.cons.injEq, and_true] at h
  exact four_word v a b c d h.1.symm h.2.1.symm h.2.2.1.symm h.2.2.2.symm
theorem four_only {v : BitVec 32} {l : List UInt8} (hl : l.length = 4) (h : crc v l = 0#32) : l = four v := by
  match l, hl with
  | [a, b, c, d], _ =>
    have e := (crc_own rfl).1 h a b c d rfl
    have k : crc v [a, b, c, d] = crc v (four v) := by rw [h, four_bytes]
    exact crc_burst (pre := []) (post := []) (v := v) rfl (by simp) (by simpa using k)
/-- a frame is taken just if the register is nought behind it -/
theorem frame_zero (b : List UInt8) : sum (frame b) = 0#32 := by
  unfold frame sum
  rw [crc_append]
  exact four_bytes _
/-- a text as long as a frame, with its length, in which up to four neighbouring bytes are other ones -/
theorem open_spoilt {b pre x y post : List UInt8} (hb : b.length ≤ 1024) (hf : frame b = pre ++ x ++ post) (hp : 2 ≤ pre.length) (hl : x.length = y.length) (h4 : x.length ≤ 4) (hne : x ≠ y) : openL (pre ++ y ++ post) = ([], 4) := by
  have hlen : (pre ++ y ++ post).length = b.length + 6 := by
    rw [← frame_length b, hf]
    simp only [List.length_append]
    omega
  have ht : told (pre ++ y ++ post) = b.length := by
    have h1 := (frame_parts b [] hb).1
    rw [List.append_nil, hf, List.append_assoc, told_append hp] at h1
    rw [List.append_assoc, told_append hp, h1]
  have hs : sum (pre ++ y ++ post) ≠ 0#32 := by
    intro h0
    have h1 := frame_zero b
    rw [hf] at h1
    exact hne (crc_burst hl h4 (h1.trans h0.symm))
  have hd : ¬ (pre ++ y ++ post).drop (b.length + 2) = four (sum ((pre ++ y ++ post).take (b.length + 2))) := by
    intro he
    apply hs
    have e := List.take_append_drop (b.length + 2) (pre ++ y ++ post)
    rw [← e, he]
    unfold sum
    rw [crc_append]
    exact four_bytes _
  unfold openL
  rw [hlen, ht, if_neg (by omega), if_neg (by omega), if_neg (by omega), if_neg (by omega), if_neg hd]
end Go.Proofs.YtdoljggaoidljaaGreat.Crc

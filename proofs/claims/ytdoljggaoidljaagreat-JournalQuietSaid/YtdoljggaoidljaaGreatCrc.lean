/- The cyclic checksum as plain mathematics: a register of 32 bits; its step is linear and loses nothing; texts that differ in up to four neighbouring bytes alone have different sums. Nothing here speaks of the program. -/
import Derived.Below
namespace Go.Proofs.YtdoljggaoidljaaGreat.Crc

/-- one bit: shifted by one, the polynomial if a one fell out -/
def bit (v : BitVec 32) : BitVec 32 := (v <<< 1) ^^^ (if v.msb then 0x04c11db7#32 else 0#32)
def bits : Nat → BitVec 32 → BitVec 32
  | 0, v => v
  | n + 1, v => bits n (bit v)
/-- a byte, among the upper eight bits -/
def top (b : UInt8) : BitVec 32 := BitVec.ofNat 32 (b.toNat * 16777216)
def byte (v : BitVec 32) (b : UInt8) : BitVec 32 := bits 8 (v ^^^ top b)
def crc (v : BitVec 32) (l : List UInt8) : BitVec 32 := l.foldl byte v
/-- the sum of a text -/
def sum (l : List UInt8) : BitVec 32 := crc (BitVec.allOnes 32) l

theorem bit_xor (a b : BitVec 32) : bit (a ^^^ b) = bit a ^^^ bit b := by
  unfold bit
  rw [BitVec.shiftLeft_xor_distrib, BitVec.msb_xor]
  cases a.msb <;> cases b.msb <;> simp
  · rw [BitVec.xor_assoc]
  · have h : ∀ x y p : BitVec 32, x ^^^ y ^^^ p = x ^^^ p ^^^ y := fun x y p => by rw [BitVec.xor_assoc, BitVec.xor_comm y p, ← BitVec.xor_assoc]
    exact h _ _ _
  · have h : ∀ x y p : BitVec 32, x ^^^ y = (x ^^^ p) ^^^ (y ^^^ p) := fun x y p => by
      rw [BitVec.xor_comm y p, BitVec.xor_assoc x p, ← BitVec.xor_assoc p p y, BitVec.xor_self, BitVec.zero_xor]
    exact h _ _ _
theorem bit_zero : bit 0#32 = 0#32 := by decide
theorem bit_eq_zero {v : BitVec 32} (h : bit v = 0#32) : v = 0#32 := by
  have h0 : (bit v).getLsbD 0 = false := by rw [h]; rfl
  have hm : v.msb = false := by
    cases hv : v.msb with
    | false => rfl
    | true =>
      unfold bit at h0
      rw [hv] at h0
      simp at h0
  unfold bit at h
  rw [hm] at h
  simp only [Bool.false_eq_true, if_false, BitVec.xor_zero] at h
  apply BitVec.eq_of_getLsbD_eq
  intro i hi
  rw [BitVec.getLsbD_zero]
  rcases Nat.lt_or_ge i 31 with h31 | h31
  · have k : (v <<< 1).getLsbD (i + 1) = false := by rw [h]; exact BitVec.getLsbD_zero
    rw [BitVec.getLsbD_shiftLeft] at k
    simp at k
    exact k (by omega)
  · have hi31 : i = 31 := by omega
    subst hi31
    rw [BitVec.msb_eq_getLsbD_last] at hm
    exact hm
theorem xor_eq_zero {a b : BitVec 32} : a ^^^ b = 0#32 ↔ a = b := by
  constructor
  · intro h
    have : (a ^^^ b) ^^^ b = b := by rw [h, BitVec.zero_xor]
    rw [BitVec.xor_assoc, BitVec.xor_self, BitVec.xor_zero] at this
    exact this
  · rintro rfl; exact BitVec.xor_self
theorem bit_inj {a b : BitVec 32} (h : bit a = bit b) : a = b := by
  apply xor_eq_zero.1
  apply bit_eq_zero
  rw [bit_xor, h, BitVec.xor_self]
theorem bits_xor (n : Nat) (a b : BitVec 32) : bits n (a ^^^ b) = bits n a ^^^ bits n b := by
  induction n generalizing a b with
  | zero => rfl
  | succ n ih => show bits n (bit (a ^^^ b)) = _; rw [bit_xor, ih]; rfl
theorem bits_zero (n : Nat) : bits n 0#32 = 0#32 := by
  induction n with
  | zero => rfl
  | succ n ih => show bits n (bit 0#32) = _; rw [bit_zero, ih]
theorem bits_inj {n : Nat} {a b : BitVec 32} (h : bits n a = bits n b) : a = b := by
  induction n generalizing a b with
  | zero => exact h
  | succ n ih => exact bit_inj (ih h)
theorem bits_add (m n : Nat) (v : BitVec 32) : bits (m + n) v = bits n (bits m v) := by
  induction m generalizing v with
  | zero => rw [Nat.zero_add]; rfl
  | succ m ih =>
    rw [Nat.succ_add]
    show bits (m + n) (bit v) = bits n (bits m (bit v))
    exact ih _

theorem top_xor (a b : UInt8) : top (a ^^^ b) = top a ^^^ top b := by
  have e : ∀ x : UInt8, top x = BitVec.ofNat 32 x.toNat <<< 24 := fun x => by
    unfold top
    apply BitVec.eq_of_toNat_eq
    simp [BitVec.toNat_shiftLeft, Nat.shiftLeft_eq]
  rw [e, e, e, ← BitVec.shiftLeft_xor_distrib]
  congr 1
  apply BitVec.eq_of_toNat_eq
  have ha := UInt8.toNat_lt a
  have hb := UInt8.toNat_lt b
  have hx := UInt8.toNat_lt (a ^^^ b)
  rw [BitVec.toNat_xor, BitVec.toNat_ofNat, BitVec.toNat_ofNat, BitVec.toNat_ofNat, Nat.mod_eq_of_lt (by omega), Nat.mod_eq_of_lt (by omega), Nat.mod_eq_of_lt (by omega), UInt8.toNat_xor]
theorem top_zero : top 0 = 0#32 := rfl
theorem byte_xor (v w : BitVec 32) (a b : UInt8) : byte (v ^^^ w) (a ^^^ b) = byte v a ^^^ byte w b := by
  unfold byte
  rw [← bits_xor, top_xor]
  congr 1
  rw [BitVec.xor_assoc, BitVec.xor_assoc, ← BitVec.xor_assoc w, BitVec.xor_comm w (top a), BitVec.xor_assoc (top a)]
theorem byte_inj {v w : BitVec 32} {b : UInt8} (h : byte v b = byte w b) : v = w := by
  have k := bits_inj h
  have e : (v ^^^ top b) ^^^ top b = (w ^^^ top b) ^^^ top b := by rw [k]
  rw [BitVec.xor_assoc, BitVec.xor_assoc, BitVec.xor_self, BitVec.xor_zero, BitVec.xor_zero] at e
  exact e
theorem crc_append (v : BitVec 32) (x y : List UInt8) : crc v (x ++ y) = crc (crc v x) y := List.foldl_append
theorem crc_inj {v w : BitVec 32} {l : List UInt8} (h : crc v l = crc w l) : v = w := by
  induction l generalizing v w with
  | nil => exact h
  | cons b l ih => exact byte_inj (ih (v := byte v b) (w := byte w b) h)

/-- bytes of one length, one by one -/
def xors (x y : List UInt8) : List UInt8 := List.zipWith (· ^^^ ·) x y
theorem crc_xor (v w : BitVec 32) (x y : List UInt8) (h : x.length = y.length) : crc (v ^^^ w) (xors x y) = crc v x ^^^ crc w y := by
  induction x generalizing v w y with
  | nil =>
    have : y = [] := List.eq_nil_of_length_eq_zero (by simpa using h.symm)
    subst this
    rfl
  | cons a x ih =>
    match y, h with
    | b :: y, h =>
      show crc (byte (v ^^^ w) (a ^^^ b)) (xors x y) = _
      rw [byte_xor]
      exact ih _ _ y (by simpa using h)
theorem crc_zeros (n : Nat) : crc 0#32 (List.replicate n 0) = 0#32 := by
  induction n with
  | zero => rfl
  | succ n ih =>
    rw [List.replicate_succ]
    show crc (byte 0#32 0) _ = _
    have : byte 0#32 0 = 0#32 := by decide
    rw [this]
    exact ih
/-- sums of texts of one length -/
theorem sum_linear (x y : List UInt8) (h : x.length = y.length) : sum x ^^^ sum y = sum (xors x y) ^^^ sum (List.replicate x.length 0) := by
  unfold sum
  rw [← crc_xor _ _ x y h, ← crc_xor _ _ (xors x y) (List.replicate x.length 0) (by simp [xors, ← h])]
  congr 1
  unfold xors
  apply List.ext_getElem
  · simp [← h]
  · intro i h1 h2
    simp

/-! ### bursts -/
theorem msb_small {n k : Nat} (h : n < 2 ^ k) (hk : k ≤ 31) : (BitVec.ofNat 32 n).msb = false := by
  rw [BitVec.msb_eq_decide]
  simp only [decide_eq_false_iff_not, Nat.not_le]
  have h1 : (2 : Nat) ^ k ≤ 2 ^ 31 := Nat.pow_le_pow_right (by decide) hk
  rw [BitVec.toNat_ofNat, Nat.mod_eq_of_lt (by omega)]
  omega
/-- a small number is only shifted -/
theorem bits_small {n k j : Nat} (h : n < 2 ^ k) (hk : k + j ≤ 32) : bits j (BitVec.ofNat 32 n) = BitVec.ofNat 32 (n * 2 ^ j) := by
  induction j generalizing n k with
  | zero => simp [bits]
  | succ j ih =>
    have hb : bit (BitVec.ofNat 32 n) = BitVec.ofNat 32 (n * 2) := by
      unfold bit
      rw [msb_small h (by omega)]
      simp only [Bool.false_eq_true, if_false, BitVec.xor_zero]
      apply BitVec.eq_of_toNat_eq
      rw [BitVec.toNat_shiftLeft, BitVec.toNat_ofNat, BitVec.toNat_ofNat, Nat.shiftLeft_eq]
      omega
    show bits j (bit (BitVec.ofNat 32 n)) = _
    rw [hb, ih (k := k + 1) (by rw [Nat.pow_succ]; omega) (by omega), Nat.pow_succ]
    congr 1
    rw [Nat.mul_assoc, Nat.mul_comm 2]
theorem top_eight (b : UInt8) : top b = bits 8 (BitVec.ofNat 32 (b.toNat * 65536)) := by
  have h := UInt8.toNat_lt b
  rw [bits_small (k := 24) (by omega) (by omega), show b.toNat * 65536 * 2 ^ 8 = b.toNat * 16777216 from by omega]
  rfl
theorem eight_eight (b : UInt8) : BitVec.ofNat 32 (b.toNat * 65536) = bits 8 (BitVec.ofNat 32 (b.toNat * 256)) := by
  have h := UInt8.toNat_lt b
  rw [bits_small (k := 16) (by omega) (by omega), show b.toNat * 256 * 2 ^ 8 = b.toNat * 65536 from by omega]
theorem eight_one (b : UInt8) : BitVec.ofNat 32 (b.toNat * 256) = bits 8 (BitVec.ofNat 32 b.toNat) := by
  have h := UInt8.toNat_lt b
  rw [bits_small (k := 8) (by omega) (by omega)]
theorem bits_bits (m n : Nat) (v : BitVec 32) : bits n (bits m v) = bits (m + n) v := (bits_add m n v).symm
/-- four bytes, from a register of noughts: the four bytes as one number, thirty-two steps on -/
theorem crc_four (a b c d : UInt8) : crc 0#32 [a, b, c, d] = bits 32 (top a ^^^ (BitVec.ofNat 32 (b.toNat * 65536) ^^^ (BitVec.ofNat 32 (c.toNat * 256) ^^^ BitVec.ofNat 32 d.toNat))) := by
  show bits 8 (bits 8 (bits 8 (bits 8 (0#32 ^^^ top a) ^^^ top b) ^^^ top c) ^^^ top d) = _
  rw [BitVec.zero_xor, top_eight b, top_eight c, top_eight d, eight_eight c, eight_eight d, eight_one d]
  simp only [bits_bits, bits_xor]
  simp only [BitVec.xor_assoc]
theorem small_of_eq {n : Nat} {k : Nat} {x : BitVec 32} (hn : n * 2 ^ k < 2 ^ 32) (hx : x.toNat < 2 ^ k) (h : BitVec.ofNat 32 (n * 2 ^ k) = x) : n = 0 ∧ x = 0#32 := by
  have e := congrArg BitVec.toNat h
  rw [BitVec.toNat_ofNat, Nat.mod_eq_of_lt hn] at e
  have hn0 : n = 0 := by
    rcases Nat.eq_zero_or_pos n with h0 | h0
    · exact h0
    · have := Nat.le_mul_of_pos_left (2 ^ k) h0
      omega
  subst hn0
  refine ⟨rfl, ?_⟩
  rw [← h]
  simp
theorem lt_of {n : Nat} {k : Nat} (h : n < 2 ^ k) : (BitVec.ofNat 32 n).toNat < 2 ^ k := by
  rw [BitVec.toNat_ofNat]
  exact Nat.lt_of_le_of_lt (Nat.mod_le _ _) h
theorem crc_four_zero {a b c d : UInt8} (h : crc 0#32 [a, b, c, d] = 0#32) : a = 0 ∧ b = 0 ∧ c = 0 ∧ d = 0 := by
  rw [crc_four] at h
  have h0 := bits_inj (h.trans (bits_zero 32).symm)
  have ha := UInt8.toNat_lt a
  have hb := UInt8.toNat_lt b
  have hc := UInt8.toNat_lt c
  have hd := UInt8.toNat_lt d
  have x3 : (BitVec.ofNat 32 d.toNat).toNat < 2 ^ 8 := lt_of (by omega)
  have x2 : (BitVec.ofNat 32 (c.toNat * 256) ^^^ BitVec.ofNat 32 d.toNat).toNat < 2 ^ 16 := by
    rw [BitVec.toNat_xor]
    exact Nat.xor_lt_two_pow (lt_of (by omega)) (Nat.lt_of_lt_of_le x3 (by decide))
  have x1 : (BitVec.ofNat 32 (b.toNat * 65536) ^^^ (BitVec.ofNat 32 (c.toNat * 256) ^^^ BitVec.ofNat 32 d.toNat)).toNat < 2 ^ 24 := by
    rw [BitVec.toNat_xor]
    exact Nat.xor_lt_two_pow (lt_of (by omega)) (Nat.lt_of_lt_of_le x2 (by decide))
  obtain ⟨a0, h1⟩ := small_of_eq (n := a.toNat) (k := 24) (by omega) x1 (xor_eq_zero.1 h0)
  obtain ⟨b0, h2⟩ := small_of_eq (n := b.toNat) (k := 16) (by omega) x2 (xor_eq_zero.1 h1)
  obtain ⟨c0, h3⟩ := small_of_eq (n := c.toNat) (k := 8) (by omega) x3 (xor_eq_zero.1 h2)
  obtain ⟨d0, _⟩ := small_of_eq (n := d.toNat) (k := 0) (x := 0#32) (by omega) (by decide) (by rw [Nat.pow_zero, Nat.mul_one]; exact h3)
  exact ⟨UInt8.toNat_inj.1 a0, UInt8.toNat_inj.1 b0, UInt8.toNat_inj.1 c0, UInt8.toNat_inj.1 d0⟩
theorem crc_short_zero {l : List UInt8} (hl : l.length ≤ 4) (h : crc 0#32 l = 0#32) : ∀ b ∈ l, b = 0 := by
  have k : crc 0#32 (l ++ List.replicate (4 - l.length) 0) = 0#32 := by rw [crc_append, h, crc_zeros]
  match l, hl with
  | [], _ => simp
  | [a], _ => obtain ⟨h1, _⟩ := crc_four_zero (b := 0) (c := 0) (d := 0) k; simp [h1]
  | [a, b], _ => obtain ⟨h1, h2, _⟩ := crc_four_zero (c := 0) (d := 0) k; simp [h1, h2]
  | [a, b, c], _ => obtain ⟨h1, h2, h3, _⟩ := crc_four_zero (d := 0) k; simp [h1, h2, h3]
  | [a, b, c, d], _ => obtain ⟨h1, h2, h3, h4⟩ := crc_four_zero k; simp [h1, h2, h3, h4]
theorem xors_zero {x y : List UInt8} (h : x.length = y.length) (k : ∀ b ∈ xors x y, b = 0) : x = y := by
  induction x generalizing y with
  | nil => exact (List.eq_nil_of_length_eq_zero (by simpa using h.symm)).symm
  | cons a x ih =>
    match y, h with
    | b :: y, h =>
      have h0 : a ^^^ b = 0 := k _ (by simp [xors])
      have hab : a = b := by
        have e : (a ^^^ b) ^^^ b = 0 ^^^ b := by rw [h0]
        rw [UInt8.xor_assoc, UInt8.xor_self, UInt8.xor_zero, UInt8.zero_xor] at e
        exact e
      rw [hab, ih (by simpa using h) (fun c hc => k c (by simp only [xors, List.zipWith_cons_cons, List.mem_cons]; exact .inr hc))]
/-- texts of one length that differ in up to four neighbouring bytes have different sums -/
theorem crc_burst {v : BitVec 32} {pre x y post : List UInt8} (hl : x.length = y.length) (h4 : x.length ≤ 4) (h : crc v (pre ++ x ++ post) = crc v (pre ++ y ++ post)) : x = y := by
  rw [crc_append, crc_append, crc_append, crc_append] at h
  have h1 := crc_inj h
  have h2 : crc 0#32 (xors x y) = 0#32 := by
    have e := crc_xor (crc v pre) (crc v pre) x y hl
    rw [BitVec.xor_self, h1, BitVec.xor_self] at e
    exact e
  exact xors_zero hl (crc_short_zero (by unfold xors; rw [List.length_zipWith]; omega) h2)
/-- a register and its own four bytes come to nought -/
theorem crc_own {v : BitVec 32} {l : List UInt8} (hl : l.length = 4) : crc v l = 0#32 ↔ ∀ a b c d, l = [a, b, c, d] → v = top a ^^^ (BitVec.ofNat 32 (b.toNat * 65536) ^^^ (BitVec.ofNat 32 (c.toNat * 256) ^^^ BitVec.ofNat 32 d.toNat)) := by
  match l, hl with
  | [a, b, c, d], _ =>
    have e : crc v [a, b, c, d] = bits 32 v ^^^ crc 0#32 [a, b, c, d] := by
      have hz : crc v [0, 0, 0, 0] = bits 32 v := by
        show bits 8 (bits 8 (bits 8 (bits 8 (v ^^^ top 0) ^^^ top 0) ^^^ top 0) ^^^ top 0) = _
        rw [top_zero]
        simp only [BitVec.xor_zero, bits_bits]
      have k := crc_xor v 0#32 [0, 0, 0, 0] [a, b, c, d] rfl
      rw [BitVec.xor_zero, hz] at k
      simpa [xors] using k
    rw [e, crc_four, ← bits_xor]
    constructor
    · intro h a' b' c' d' hl
      obtain ⟨rfl, rfl, rfl, rfl⟩ : a = a' ∧ b = b' ∧ c = c' ∧ d = d' := by simpa using hl
      exact xor_eq_zero.1 (bits_inj (h.trans (bits_zero 32).symm))
    · intro h
      have hv := h a b c d rfl
      rw [hv, BitVec.xor_self, bits_zero]
end Go.Proofs.YtdoljggaoidljaaGreat.Crc

/- Contracts and plain mathematics of earlier stages: Pk, Crc, CrcGo, Frame. -/
import Derived.Below
import Derived.Laws.BitsLemmas
import Derived.Laws.BitsAllLaws
namespace Go.Proofs.Ytfmhfngilimhjaa.Pk

/-- A writer as plain data: its limit, what was written, its error. -/
structure S where
  L : Int
  bs : List UInt8
  e : Int

namespace S
def fail (s : S) (e : Int) : S := if s.e = 0 then { s with e := e } else s
def put (s : S) (t : List UInt8) : S := if s.e = 0 then (if (t.length : Int) ≤ s.L - s.bs.length then { s with bs := s.bs ++ t } else { s with e := 2 }) else s
end S

/-- byte i of a number of so many bytes, the greatest first -/
def dig (width : Nat) (n : Int) (i : Nat) : UInt8 := UInt8.ofNat (n / 2 ^ (8 * (width - 1 - i)) % 256).toNat
def digits (width : Nat) (n : Int) : List UInt8 := (List.range width).map (dig width n)
theorem digits_length (width : Nat) (n : Int) : (digits width n).length = width := by simp [digits]

def fits (width : Nat) (n : Int) : Bool := decide (0 ≤ n) && decide (n < 2 ^ (8 * width))

namespace S
def num (s : S) (width : Nat) (n : Int) : S := if fits width n = true then s.put (digits width n) else s.fail 32
def nums (s : S) (width : Nat) (l : List Int) : S := l.foldl (fun s n => s.num width n) s
def text (s : S) (t : List UInt8) : S := if t.length ≤ 255 then s.put (UInt8.ofNat t.length :: t) else s.fail 32
def texts (s : S) (l : List (List UInt8)) : S := l.foldl text s
def done (s : S) : List UInt8 × Int := if s.e = 0 then (s.bs, 0) else ([], s.e)

theorem fail_bad {s : S} (h : s.e ≠ 0) (e : Int) : s.fail e = s := by simp [fail, h]
theorem put_bad {s : S} (h : s.e ≠ 0) (t : List UInt8) : s.put t = s := by simp [put, h]
theorem num_bad {s : S} (h : s.e ≠ 0) (width : Nat) (n : Int) : s.num width n = s := by unfold num; split <;> simp [fail_bad h, put_bad h]
theorem text_bad {s : S} (h : s.e ≠ 0) (t : List UInt8) : s.text t = s := by unfold text; split <;> simp [fail_bad h, put_bad h]
theorem fail_L (s : S) (e : Int) : (s.fail e).L = s.L := by unfold fail; split <;> rfl
theorem fail_bs (s : S) (e : Int) : (s.fail e).bs = s.bs := by unfold fail; split <;> rfl
theorem put_L (s : S) (t : List UInt8) : (s.put t).L = s.L := by unfold put; split <;> (try split) <;> rfl
theorem num_L (s : S) (width : Nat) (n : Int) : (s.num width n).L = s.L := by unfold num; split <;> simp [put_L, fail_L]
theorem text_L (s : S) (t : List UInt8) : (s.text t).L = s.L := by unfold text; split <;> simp [put_L, fail_L]
theorem fail_e {s : S} {e : Int} (h : e ≠ 0) : (s.fail e).e ≠ 0 := by unfold fail; split <;> simp_all
theorem nums_bad {s : S} (h : s.e ≠ 0) (width : Nat) (l : List Int) : s.nums width l = s := by
  induction l with
  | nil => rfl
  | cons n l ih => show (s.num width n).nums width l = s; rw [num_bad h]; exact ih
theorem texts_bad {s : S} (h : s.e ≠ 0) (l : List (List UInt8)) : s.texts l = s := by
  induction l with
  | nil => rfl
  | cons n l ih => show (s.text n).texts l = s; rw [text_bad h]; exact ih
theorem nums_cons (s : S) (width : Nat) (n : Int) (l : List Int) : s.nums width (n :: l) = (s.num width n).nums width l := rfl
theorem nums_append (s : S) (width : Nat) (l l' : List Int) : s.nums width (l ++ l') = (s.nums width l).nums width l' := List.foldl_append
theorem texts_append (s : S) (l l' : List (List UInt8)) : s.texts (l ++ l') = (s.texts l).texts l' := List.foldl_append
/-- how many bytes there are behind a step -/
theorem put_len (s : S) (t : List UInt8) : s.bs.length ≤ (s.put t).bs.length ∧ (s.put t).bs.length ≤ s.bs.length + t.length := by
  unfold put; split
  · split
    · simp
    · simp
  · simp
theorem num_len (s : S) (width : Nat) (n : Int) : s.bs.length ≤ (s.num width n).bs.length ∧ (s.num width n).bs.length ≤ s.bs.length + width := by
  unfold num; split
  · have := put_len s (digits width n); rw [digits_length] at this; exact this
  · rw [fail_bs]; omega
theorem text_len (s : S) (t : List UInt8) : s.bs.length ≤ (s.text t).bs.length ∧ (s.text t).bs.length ≤ s.bs.length + (t.length + 1) := by
  unfold text; split
  · have := put_len s (UInt8.ofNat t.length :: t); simpa using this
  · rw [fail_bs]; omega
theorem nums_L (s : S) (width : Nat) (l : List Int) : (s.nums width l).L = s.L := by
  induction l generalizing s with
  | nil => rfl
  | cons n l ih => rw [nums_cons, ih, num_L]
theorem texts_L (s : S) (l : List (List UInt8)) : (s.texts l).L = s.L := by
  induction l generalizing s with
  | nil => rfl
  | cons n l ih => show ((s.text n).texts l).L = s.L; rw [ih, text_L]
theorem nums_len (s : S) (width : Nat) (l : List Int) : s.bs.length ≤ (s.nums width l).bs.length ∧ (s.nums width l).bs.length ≤ s.bs.length + width * l.length := by
  induction l generalizing s with
  | nil => simp [nums]
  | cons n l ih =>
    rw [nums_cons]
    have h1 := ih (s.num width n)
    have h2 := num_len s width n
    rw [List.length_cons, Nat.mul_add, Nat.mul_one]
    omega
theorem text_len' (s : S) (t : List UInt8) : (s.text t).bs.length ≤ s.bs.length + 256 := by
  unfold text; split
  · have := put_len s (UInt8.ofNat t.length :: t); simp at this; omega
  · rw [fail_bs]; omega
theorem texts_len (s : S) (l : List (List UInt8)) : (s.texts l).bs.length ≤ s.bs.length + 256 * l.length := by
  induction l generalizing s with
  | nil => simp [texts]
  | cons t l ih =>
    show ((s.text t).texts l).bs.length ≤ _
    have h1 := ih (s.text t)
    have h2 := text_len' s t
    rw [List.length_cons, Nat.mul_add, Nat.mul_one]
    omega
/-- what holds of every writer: never more bytes than its limit -/
def Ok (s : S) : Prop := 0 ≤ s.L ∧ s.L ≤ 9223372036854775807 ∧ (s.bs.length : Int) ≤ s.L
theorem fail_ok {s : S} (h : s.Ok) (e : Int) : (s.fail e).Ok := by unfold fail; split <;> simpa [Ok] using h
theorem put_ok {s : S} (h : s.Ok) (t : List UInt8) : (s.put t).Ok := by
  obtain ⟨h1, h2, h3⟩ := h
  unfold put; split
  · split
    · refine ⟨h1, h2, ?_⟩; simp; omega
    · exact ⟨h1, h2, h3⟩
  · exact ⟨h1, h2, h3⟩
theorem num_ok {s : S} (h : s.Ok) (width : Nat) (n : Int) : (s.num width n).Ok := by unfold num; split <;> first | exact put_ok h _ | exact fail_ok h _
theorem text_ok {s : S} (h : s.Ok) (t : List UInt8) : (s.text t).Ok := by unfold text; split <;> first | exact put_ok h _ | exact fail_ok h _
end S

/-- A reader as plain data: what is left, and whether something couldn't be read. -/
structure R where
  rest : List UInt8
  bad : Bool

namespace R
def take (r : R) (n : Int) : List UInt8 × R := if r.bad = true ∨ (r.rest.length : Int) < n then ([], { r with bad := true }) else (r.rest.take n.toNat, { r with rest := r.rest.drop n.toNat })
def val (l : List UInt8) : Int := l.foldl (fun n b => n * 256 + (b.toNat : Int)) 0
def num (r : R) (width : Nat) : Int × R := (val (r.take width).1, (r.take width).2)
def size (r : R) : Int := match r.rest with | [] => 1 | b :: _ => 1 + (b.toNat : Int)
def text (r : R) : List UInt8 × R := ((r.take r.size).1.drop 1, (r.take r.size).2)
def fin (r : R) : Int := if r.bad = true then 1 else if r.rest = [] then 0 else 3
end R
end Go.Proofs.Ytfmhfngilimhjaa.Pk

namespace Go.Proofs.Ytfmhfngilimhjaa.Crc

/-- one bit: shifted by one, the polynomial if a one fell out -/
def bit (v : BitVec 32) : BitVec 32 := (v <<< 1) ^^^ (if v.msb then 0x04c11db7#32 else 0#32)
def bits : Nat → BitVec 32 → BitVec 32
  | 0, v => v
  | n + 1, v => bits n (bit v)
/-- a byte, among the upper eight bits -/
def top (b : UInt8) : BitVec 32 := BitVec.ofNat 32 (b.toNat * 16777216)
def byte (v : BitVec 32) (b : UInt8) : BitVec 32 := bits 8 (v ^^^ top b)
def crc (v : BitVec 32) (l : List UInt8) : BitVec 32 := l.foldl byte v
/-- the sum of a text -/
def sum (l : List UInt8) : BitVec 32 := crc (BitVec.allOnes 32) l

theorem bit_xor (a b : BitVec 32) : bit (a ^^^ b) = bit a ^^^ bit b := by
  unfold bit
  rw [BitVec.shiftLeft_xor_distrib, BitVec.msb_xor]
  cases a.msb <;> cases b.msb <;> simp
  · rw [BitVec.xor_assoc]
  · have h : ∀ x y p : BitVec 32, x ^^^ y ^^^ p = x ^^^ p ^^^ y := fun x y p => by rw [BitVec.xor_assoc, BitVec.xor_comm y p, ← BitVec.xor_assoc]
    exact h _ _ _
  · have h : ∀ x y p : BitVec 32, x ^^^ y = (x ^^^ p) ^^^ (y ^^^ p) := fun x y p => by
      rw [BitVec.xor_comm y p, BitVec.xor_assoc x p, ← BitVec.xor_assoc p p y, BitVec.xor_self, BitVec.zero_xor]
    exact h _ _ _
theorem bit_zero : bit 0#32 = 0#32 := by decide
theorem bit_eq_zero {v : BitVec 32} (h : bit v = 0#32) : v = 0#32 := by
  have h0 : (bit v).getLsbD 0 = false := by rw [h]; rfl
  have hm : v.msb = false := by
    cases hv : v.msb with
    | false => rfl
    | true =>
      unfold bit at h0
      rw [hv] at h0
      simp at h0
  unfold bit at h
  rw [hm] at h
  simp only [Bool.false_eq_true, if_false, BitVec.xor_zero] at h
  apply BitVec.eq_of_getLsbD_eq
  intro i hi
  rw [BitVec.getLsbD_zero]
  rcases Nat.lt_or_ge i 31 with h31 | h31
  · have k : (v <<< 1).getLsbD (i + 1) = false := by rw [h]; exact BitVec.getLsbD_zero
    rw [BitVec.getLsbD_shiftLeft] at k
    simp at k
    exact k (by omega)
  · have hi31 : i = 31 := by omega
    subst hi31
    rw [BitVec.msb_eq_getLsbD_last] at hm
    exact hm
theorem xor_eq_zero {a b : BitVec 32} : a ^^^ b = 0#32 ↔ a = b := by
  constructor
  · intro h
    have : (a ^^^ b) ^^^ b = b := by rw [h, BitVec.zero_xor]
    rw [BitVec.xor_assoc, BitVec.xor_self, BitVec.xor_zero] at this
    exact this
  · rintro rfl; exact BitVec.xor_self
theorem bit_inj {a b : BitVec 32} (h : bit a = bit b) : a = b := by
  apply xor_eq_zero.1
  apply bit_eq_zero
  rw [bit_xor, h, BitVec.xor_self]
theorem bits_xor (n : Nat) (a b : BitVec 32) : bits n (a ^^^ b) = bits n a ^^^ bits n b := by
  induction n generalizing a b with
  | zero => rfl
  | succ n ih => show bits n (bit (a ^^^ b)) = _; rw [bit_xor, ih]; rfl
theorem bits_zero (n : Nat) : bits n 0#32 = 0#32 := by
  induction n with
  | zero => rfl
  | succ n ih => show bits n (bit 0#32) = _; rw [bit_zero, ih]
theorem bits_inj {n : Nat} {a b : BitVec 32} (h : bits n a = bits n b) : a = b := by
  induction n generalizing a b with
  | zero => exact h
  | succ n ih => exact bit_inj (ih h)
theorem bits_add (m n : Nat) (v : BitVec 32) : bits (m + n) v = bits n (bits m v) := by
  induction m generalizing v with
  | zero => rw [Nat.zero_add]; rfl
  | succ m ih =>
    rw [Nat.succ_add]
    show bits (m + n) (bit v) = bits n (bits m (bit v))
    exact ih _

theorem top_xor (a b : UInt8) : top (a ^^^ b) = top a ^^^ top b := by
  have e : ∀ x : UInt8, top x = BitVec.ofNat 32 x.toNat <<< 24 := fun x => by
    unfold top
    apply BitVec.eq_of_toNat_eq
    simp [BitVec.toNat_shiftLeft, Nat.shiftLeft_eq]
  rw [e, e, e, ← BitVec.shiftLeft_xor_distrib]
  congr 1
  apply BitVec.eq_of_toNat_eq
  have ha := UInt8.toNat_lt a
  have hb := UInt8.toNat_lt b
  have hx := UInt8.toNat_lt (a ^^^ b)
  rw [BitVec.toNat_xor, BitVec.toNat_ofNat, BitVec.toNat_ofNat, BitVec.toNat_ofNat, Nat.mod_eq_of_lt (by omega), Nat.mod_eq_of_lt (by omega), Nat.mod_eq_of_lt (by omega), UInt8.toNat_xor]
theorem top_zero : top 0 = 0#32 := rfl
theorem byte_xor (v w : BitVec 32) (a b : UInt8) : byte (v ^^^ w) (a ^^^ b) = byte v a ^^^ byte w b := by
  unfold byte
  rw [← bits_xor, top_xor]
  congr 1
  rw [BitVec.xor_assoc, BitVec.xor_assoc, ← BitVec.xor_assoc w, BitVec.xor_comm w (top a), BitVec.xor_assoc (top a)]
theorem byte_inj {v w : BitVec 32} {b : UInt8} (h : byte v b = byte w b) : v = w := by
  have k := bits_inj h
  have e : (v ^^^ top b) ^^^ top b = (w ^^^ top b) ^^^ top b := by rw [k]
  rw [BitVec.xor_assoc, BitVec.xor_assoc, BitVec.xor_self, BitVec.xor_zero, BitVec.xor_zero] at e
  exact e
theorem crc_append (v : BitVec 32) (x y : List UInt8) : crc v (x ++ y) = crc (crc v x) y := List.foldl_append
theorem crc_inj {v w : BitVec 32} {l : List UInt8} (h : crc v l = crc w l) : v = w := by
  induction l generalizing v w with
  | nil => exact h
  | cons b l ih => exact byte_inj (ih (v := byte v b) (w := byte w b) h)

/-- bytes of one length, one by one -/
def xors (x y : List UInt8) : List UInt8 := List.zipWith (· ^^^ ·) x y
theorem crc_xor (v w : BitVec 32) (x y : List UInt8) (h : x.length = y.length) : crc (v ^^^ w) (xors x y) = crc v x ^^^ crc w y := by
  induction x generalizing v w y with
  | nil =>
    have : y = [] := List.eq_nil_of_length_eq_zero (by simpa using h.symm)
    subst this
    rfl
  | cons a x ih =>
    match y, h with
    | b :: y, h =>
      show crc (byte (v ^^^ w) (a ^^^ b)) (xors x y) = _
      rw [byte_xor]
      exact ih _ _ y (by simpa using h)
theorem crc_zeros (n : Nat) : crc 0#32 (List.replicate n 0) = 0#32 := by
  induction n with
  | zero => rfl
  | succ n ih =>
    rw [List.replicate_succ]
    show crc (byte 0#32 0) _ = _
    have : byte 0#32 0 = 0#32 := by decide
    rw [this]
    exact ih
/-- sums of texts of one length -/
theorem sum_linear (x y : List UInt8) (h : x.length = y.length) : sum x ^^^ sum y = sum (xors x y) ^^^ sum (List.replicate x.length 0) := by
  unfold sum
  rw [← crc_xor _ _ x y h, ← crc_xor _ _ (xors x y) (List.replicate x.length 0) (by simp [xors, ← h])]
  congr 1
  unfold xors
  apply List.ext_getElem
  · simp [← h]
  · intro i h1 h2
    simp

/-! ### bursts -/
theorem msb_small {n k : Nat} (h : n < 2 ^ k) (hk : k ≤ 31) : (BitVec.ofNat 32 n).msb = false := by
  rw [BitVec.msb_eq_decide]
  simp only [decide_eq_false_iff_not, Nat.not_le]
  have h1 : (2 : Nat) ^ k ≤ 2 ^ 31 := Nat.pow_le_pow_right (by decide) hk
  rw [BitVec.toNat_ofNat, Nat.mod_eq_of_lt (by omega)]
  omega
/-- a small number is only shifted -/
theorem bits_small {n k j : Nat} (h : n < 2 ^ k) (hk : k + j ≤ 32) : bits j (BitVec.ofNat 32 n) = BitVec.ofNat 32 (n * 2 ^ j) := by
  induction j generalizing n k with
  | zero => simp [bits]
  | succ j ih =>
    have hb : bit (BitVec.ofNat 32 n) = BitVec.ofNat 32 (n * 2) := by
      unfold bit
      rw [msb_small h (by omega)]
      simp only [Bool.false_eq_true, if_false, BitVec.xor_zero]
      apply BitVec.eq_of_toNat_eq
      rw [BitVec.toNat_shiftLeft, BitVec.toNat_ofNat, BitVec.toNat_ofNat, Nat.shiftLeft_eq]
      omega
    show bits j (bit (BitVec.ofNat 32 n)) = _
    rw [hb, ih (k := k + 1) (by rw [Nat.pow_succ]; omega) (by omega), Nat.pow_succ]
    congr 1
    rw [Nat.mul_assoc, Nat.mul_comm 2]
theorem top_eight (b : UInt8) : top b = bits 8 (BitVec.ofNat 32 (b.toNat * 65536)) := by
  have h := UInt8.toNat_lt b
  rw [bits_small (k := 24) (by omega) (by omega), show b.toNat * 65536 * 2 ^ 8 = b.toNat * 16777216 from by omega]
  rfl
theorem eight_eight (b : UInt8) : BitVec.ofNat 32 (b.toNat * 65536) = bits 8 (BitVec.ofNat 32 (b.toNat * 256)) := by
  have h := UInt8.toNat_lt b
  rw [bits_small (k := 16) (by omega) (by omega), show b.toNat * 256 * 2 ^ 8 = b.toNat * 65536 from by omega]
theorem eight_one (b : UInt8) : BitVec.ofNat 32 (b.toNat * 256) = bits 8 (BitVec.ofNat 32 b.toNat) := by
  have h := UInt8.toNat_lt b
  rw [bits_small (k := 8) (by omega) (by omega)]
theorem bits_bits (m n : Nat) (v : BitVec 32) : bits n (bits m v) = bits (m + n) v := (bits_add m n v).symm
/-- four bytes, from a register of noughts: the four bytes as one number, thirty-two steps on -/
theorem crc_four (a b c d : UInt8) : crc 0#32 [a, b, c, d] = bits 32 (top a ^^^ (BitVec.ofNat 32 (b.toNat * 65536) ^^^ (BitVec.ofNat 32 (c.toNat * 256) ^^^ BitVec.ofNat 32 d.toNat))) := by
  show bits 8 (bits 8 (bits 8 (bits 8 (0#32 ^^^ top a) ^^^ top b) ^^^ top c) ^^^ top d) = _
  rw [BitVec.zero_xor, top_eight b, top_eight c, top_eight d, eight_eight c, eight_eight d, eight_one d]
  simp only [bits_bits, bits_xor]
  simp only [BitVec.xor_assoc]
theorem small_of_eq {n : Nat} {k : Nat} {x : BitVec 32} (hn : n * 2 ^ k < 2 ^ 32) (hx : x.toNat < 2 ^ k) (h : BitVec.ofNat 32 (n * 2 ^ k) = x) : n = 0 ∧ x = 0#32 := by
  have e := congrArg BitVec.toNat h
  rw [BitVec.toNat_ofNat, Nat.mod_eq_of_lt hn] at e
  have hn0 : n = 0 := by
    rcases Nat.eq_zero_or_pos n with h0 | h0
    · exact h0
    · have := Nat.le_mul_of_pos_left (2 ^ k) h0
      omega
  subst hn0
  refine ⟨rfl, ?_⟩
  rw [← h]
  simp
theorem lt_of {n : Nat} {k : Nat} (h : n < 2 ^ k) : (BitVec.ofNat 32 n).toNat < 2 ^ k := by
  rw [BitVec.toNat_ofNat]
  exact Nat.lt_of_le_of_lt (Nat.mod_le _ _) h
theorem crc_four_zero {a b c d : UInt8} (h : crc 0#32 [a, b, c, d] = 0#32) : a = 0 ∧ b = 0 ∧ c = 0 ∧ d = 0 := by
  rw [crc_four] at h
  have h0 := bits_inj (h.trans (bits_zero 32).symm)
  have ha := UInt8.toNat_lt a
  have hb := UInt8.toNat_lt b
  have hc := UInt8.toNat_lt c
  have hd := UInt8.toNat_lt d
  have x3 : (BitVec.ofNat 32 d.toNat).toNat < 2 ^ 8 := lt_of (by omega)
  have x2 : (BitVec.ofNat 32 (c.toNat * 256) ^^^ BitVec.ofNat 32 d.toNat).toNat < 2 ^ 16 := by
    rw [BitVec.toNat_xor]
    exact Nat.xor_lt_two_pow (lt_of (by omega)) (Nat.lt_of_lt_of_le x3 (by decide))
  have x1 : (BitVec.ofNat 32 (b.toNat * 65536) ^^^ (BitVec.ofNat 32 (c.toNat * 256) ^^^ BitVec.ofNat 32 d.toNat)).toNat < 2 ^ 24 := by
    rw [BitVec.toNat_xor]
    exact Nat.xor_lt_two_pow (lt_of (by omega)) (Nat.lt_of_lt_of_le x2 (by decide))
  obtain ⟨a0, h1⟩ := small_of_eq (n := a.toNat) (k := 24) (by omega) x1 (xor_eq_zero.1 h0)
  obtain ⟨b0, h2⟩ := small_of_eq (n := b.toNat) (k := 16) (by omega) x2 (xor_eq_zero.1 h1)
  obtain ⟨c0, h3⟩ := small_of_eq (n := c.toNat) (k := 8) (by omega) x3 (xor_eq_zero.1 h2)
  obtain ⟨d0, _⟩ := small_of_eq (n := d.toNat) (k := 0) (x := 0#32) (by omega) (by decide) (by rw [Nat.pow_zero, Nat.mul_one]; exact h3)
  exact ⟨UInt8.toNat_inj.1 a0, UInt8.toNat_inj.1 b0, UInt8.toNat_inj.1 c0, UInt8.toNat_inj.1 d0⟩
theorem crc_short_zero {l : List UInt8} (hl : l.length ≤ 4) (h : crc 0#32 l = 0#32) : ∀ b ∈ l, b = 0 := by
  have k : crc 0#32 (l ++ List.replicate (4 - l.length) 0) = 0#32 := by rw [crc_append, h, crc_zeros]
  match l, hl with
  | [], _ => simp
  | [a], _ => obtain ⟨h1, _⟩ := crc_four_zero (b := 0) (c := 0) (d := 0) k; simp [h1]
  | [a, b], _ => obtain ⟨h1, h2, _⟩ := crc_four_zero (c := 0) (d := 0) k; simp [h1, h2]
  | [a, b, c], _ => obtain ⟨h1, h2, h3, _⟩ := crc_four_zero (d := 0) k; simp [h1, h2, h3]
  | [a, b, c, d], _ => obtain ⟨h1, h2, h3, h4⟩ := crc_four_zero k; simp [h1, h2, h3, h4]
theorem xors_zero {x y : List UInt8} (h : x.length = y.length) (k : ∀ b ∈ xors x y, b = 0) : x = y := by
  induction x generalizing y with
  | nil => exact (List.eq_nil_of_length_eq_zero (by simpa using h.symm)).symm
  | cons a x ih =>
    match y, h with
    | b :: y, h =>
      have h0 : a ^^^ b = 0 := k _ (by simp [xors])
      have hab : a = b := by
        have e : (a ^^^ b) ^^^ b = 0 ^^^ b := by rw [h0]
        rw [UInt8.xor_assoc, UInt8.xor_self, UInt8.xor_zero, UInt8.zero_xor] at e
        exact e
      rw [hab, ih (by simpa using h) (fun c hc => k c (by simp only [xors, List.zipWith_cons_cons, List.mem_cons]; exact .inr hc))]
/-- texts of one length that differ in up to four neighbouring bytes have different sums -/
theorem crc_burst {v : BitVec 32} {pre x y post : List UInt8} (hl : x.length = y.length) (h4 : x.length ≤ 4) (h : crc v (pre ++ x ++ post) = crc v (pre ++ y ++ post)) : x = y := by
  rw [crc_append, crc_append, crc_append, crc_append] at h
  have h1 := crc_inj h
  have h2 : crc 0#32 (xors x y) = 0#32 := by
    have e := crc_xor (crc v pre) (crc v pre) x y hl
    rw [BitVec.xor_self, h1, BitVec.xor_self] at e
    exact e
  exact xors_zero hl (crc_short_zero (by unfold xors; rw [List.length_zipWith]; omega) h2)
/-- a register and its own four bytes come to nought -/
theorem crc_own {v : BitVec 32} {l : List UInt8} (hl : l.length = 4) : crc v l = 0#32 ↔ ∀ a b c d, l = [a, b, c, d] → v = top a ^^^ (BitVec.ofNat 32 (b.toNat * 65536) ^^^ (BitVec.ofNat 32 (c.toNat * 256) ^^^ BitVec.ofNat 32 d.toNat)) := by
  match l, hl with
  | [a, b, c, d], _ =>
    have e : crc v [a, b, c, d] = bits 32 v ^^^ crc 0#32 [a, b, c, d] := by
      have hz : crc v [0, 0, 0, 0] = bits 32 v := by
        show bits 8 (bits 8 (bits 8 (bits 8 (v ^^^ top 0) ^^^ top 0) ^^^ top 0) ^^^ top 0) = _
        rw [top_zero]
        simp only [BitVec.xor_zero, bits_bits]
      have k := crc_xor v 0#32 [0, 0, 0, 0] [a, b, c, d] rfl
      rw [BitVec.xor_zero, hz] at k
      simpa [xors] using k
    rw [e, crc_four, ← bits_xor]
    constructor
    · intro h a' b' c' d' hl
      obtain ⟨rfl, rfl, rfl, rfl⟩ : a = a' ∧ b = b' ∧ c = c' ∧ d = d' := by simpa using hl
      exact xor_eq_zero.1 (bits_inj (h.trans (bits_zero 32).symm))
    · intro h
      have hv := h a b c d rfl
      rw [hv, BitVec.xor_self, bits_zero]
end Go.Proofs.Ytfmhfngilimhjaa.Crc

namespace Go.Proofs.Ytfmhfngilimhjaa.Crc

theorem i64_xor (a b : Nat) (ha : a < 4611686018427387904) (hb : b < 4611686018427387904) : Go.bits .xor .i64 (a : Int) (b : Int) = ((a ^^^ b : Nat) : Int) := by
  have hx : a ^^^ b < 2 ^ 62 := Nat.xor_lt_two_pow (by omega) (by omega)
  show IntKind.i64.wrap ((BitVec.ofInt 64 (a : Int) ^^^ BitVec.ofInt 64 (b : Int)).toNat : Int) = _
  rw [BitVec.toNat_xor, BitVec.ofInt_natCast, BitVec.ofInt_natCast, BitVec.toNat_ofNat, BitVec.toNat_ofNat, Nat.mod_eq_of_lt (by omega), Nat.mod_eq_of_lt (by omega), IntKind.wrap_i64]
  omega
theorem msb_iff (v : BitVec 32) : v.msb = decide (4294967296 ≤ v.toNat * 2) := by
  rw [BitVec.msb_eq_decide]
  congr 1
  apply propext
  show 2 ^ 31 ≤ v.toNat ↔ _
  omega
theorem bit_toNat (v : BitVec 32) : (bit v).toNat = if 4294967296 ≤ v.toNat * 2 then (v.toNat * 2 - 4294967296) ^^^ 79764919 else v.toNat * 2 := by
  have hv := v.isLt
  unfold bit
  rw [msb_iff]
  by_cases h : 4294967296 ≤ v.toNat * 2
  · simp only [h, decide_true, if_true]
    rw [BitVec.toNat_xor, BitVec.toNat_shiftLeft, Nat.shiftLeft_eq]
    have e : v.toNat * 2 ^ 1 % 2 ^ 32 = v.toNat * 2 - 4294967296 := by omega
    rw [e]
    rfl
  · simp only [h, decide_false, if_false, Bool.false_eq_true]
    rw [BitVec.toNat_xor, BitVec.toNat_shiftLeft, Nat.shiftLeft_eq]
    have e : v.toNat * 2 ^ 1 % 2 ^ 32 = v.toNat * 2 := by omega
    rw [e]
    simp
theorem top_toNat (b : UInt8) : (top b).toNat = b.toNat * 16777216 := by
  have h := UInt8.toNat_lt b
  unfold top
  rw [BitVec.toNat_ofNat, Nat.mod_eq_of_lt (by omega)]
end Go.Proofs.Ytfmhfngilimhjaa.Crc

namespace Go.Proofs.Ytfmhfngilimhjaa.Crc

/-- a length in two bytes; a sum in four -/
def hdr (n : Nat) : List UInt8 := [UInt8.ofNat (n / 256), UInt8.ofNat n]
def four (v : BitVec 32) : List UInt8 := [UInt8.ofNat (v.toNat / 16777216), UInt8.ofNat (v.toNat / 65536), UInt8.ofNat (v.toNat / 256), UInt8.ofNat v.toNat]
/-- a body's frame -/
def frame (b : List UInt8) : List UInt8 := (hdr b.length ++ b) ++ four (sum (hdr b.length ++ b))
theorem frame_length (b : List UInt8) : (frame b).length = b.length + 6 := by simp [frame, hdr, four]
/-- the length that a text tells -/
def told (t : List UInt8) : Nat := t[0]!.toNat * 256 + t[1]!.toNat
/-- what opening answers -/
def openL (t : List UInt8) : List UInt8 × Int :=
  if t.length < 6 then ([], 1) else if 1024 < told t then ([], 2) else if t.length < told t + 6 then ([], 1) else if told t + 6 < t.length then ([], 3)
  else if t.drop (told t + 2) = four (sum (t.take (told t + 2))) then ((t.drop 2).take (told t), 0) else ([], 4)
/-- what is found at the head of a text -/
def headL (t : List UInt8) : List UInt8 × Nat × Int :=
  if t.length < 6 then ([], 0, 1) else if 1024 < told t then ([], 0, 2) else if t.length < told t + 6 then ([], 0, 1)
  else if (t.take (told t + 6)).drop (told t + 2) = four (sum (t.take (told t + 2))) then ((t.drop 2).take (told t), told t + 6, 0) else ([], 0, 4)

theorem told_hdr (n : Nat) (hn : n ≤ 1024) (l : List UInt8) : told (hdr n ++ l) = n := by
  show (UInt8.ofNat (n / 256)).toNat * 256 + (UInt8.ofNat n).toNat = n
  rw [UInt8.toNat_ofNat', UInt8.toNat_ofNat']
  omega
theorem hdr_told (a b : UInt8) (l : List UInt8) : hdr (told (a :: b :: l)) = [a, b] := by
  have ha := UInt8.toNat_lt a
  have hb := UInt8.toNat_lt b
  show [UInt8.ofNat ((a.toNat * 256 + b.toNat) / 256), UInt8.ofNat (a.toNat * 256 + b.toNat)] = _
  have e1 : UInt8.ofNat ((a.toNat * 256 + b.toNat) / 256) = a := by
    apply UInt8.toNat_inj.1
    rw [UInt8.toNat_ofNat']; omega
  have e2 : UInt8.ofNat (a.toNat * 256 + b.toNat) = b := by
    apply UInt8.toNat_inj.1
    rw [UInt8.toNat_ofNat']; omega
  rw [e1, e2]
theorem told_append {t l : List UInt8} (h : 2 ≤ t.length) : told (t ++ l) = told t := by
  match t, h with
  | a :: b :: t, _ => rfl

theorem hdr_take {t : List UInt8} (h : 2 ≤ t.length) : hdr (told t) ++ (t.drop 2).take (told t) = t.take (told t + 2) := by
  match t, h with
  | x :: y :: t, _ =>
    rw [hdr_told x y t]
    generalize told (x :: y :: t) = k
    rfl
/-- the three parts of a frame with something behind it -/
theorem frame_parts (b more : List UInt8) (hb : b.length ≤ 1024) : told (frame b ++ more) = b.length ∧ (frame b ++ more).take (b.length + 2) = hdr b.length ++ b ∧ ((frame b ++ more).take (b.length + 6)).drop (b.length + 2) = four (sum (hdr b.length ++ b)) ∧ ((frame b ++ more).drop 2).take b.length = b := by
  have h2 : (hdr b.length ++ b).length = b.length + 2 := by simp [hdr]
  refine ⟨?_, ?_, ?_, ?_⟩
  · rw [told_append (by rw [frame_length]; omega)]
    unfold frame
    rw [List.append_assoc]
    exact told_hdr _ hb _
  · unfold frame
    rw [List.append_assoc, ← h2, List.take_left]
  · rw [← frame_length, List.take_left]
    unfold frame
    rw [← h2, List.drop_left]
  · unfold frame
    rw [List.append_assoc, List.append_assoc]
    show (b ++ _).take b.length = b
    exact List.take_left
theorem open_frame (b : List UInt8) (hb : b.length ≤ 1024) : openL (frame b) = (b, 0) := by
  obtain ⟨h1, h2, h3, h4⟩ := frame_parts b [] hb
  rw [List.append_nil] at h1 h2 h3 h4
  have hl := frame_length b
  unfold openL
  rw [h1, if_neg (by omega), if_neg (by omega), if_neg (by omega), if_neg (by omega), h2, h4]
  rw [← hl, List.take_length] at h3
  rw [if_pos h3]
theorem head_frame (b more : List UInt8) (hb : b.length ≤ 1024) : headL (frame b ++ more) = (b, b.length + 6, 0) := by
  obtain ⟨h1, h2, h3, h4⟩ := frame_parts b more hb
  have hl := frame_length b
  unfold headL
  rw [h1, List.length_append, if_neg (by omega), if_neg (by omega), if_neg (by omega), h2, h4, if_pos h3]
theorem open_more (b more : List UInt8) (hb : b.length ≤ 1024) (hm : more ≠ []) : openL (frame b ++ more) = ([], 3) := by
  obtain ⟨h1, _⟩ := frame_parts b more hb
  have hl := frame_length b
  have hp : 0 < more.length := List.length_pos_iff.2 hm
  unfold openL
  rw [h1, List.length_append, if_neg (by omega), if_neg (by omega), if_neg (by omega), if_pos (by omega)]
theorem open_cut (b : List UInt8) (hb : b.length ≤ 1024) (n : Nat) (hn : n < b.length + 6) : openL ((frame b).take n) = ([], 1) := by
  have hl := frame_length b
  have hlen : ((frame b).take n).length = n := by rw [List.length_take]; omega
  unfold openL
  rw [hlen]
  by_cases h6 : n < 6
  · rw [if_pos h6]
  · have ht : told ((frame b).take n) = b.length := by
      have h := (frame_parts b [] hb).1
      rw [List.append_nil] at h
      rw [← h]
      have e := told_append (t := (frame b).take n) (l := (frame b).drop n) (by rw [hlen]; omega)
      rw [List.take_append_drop] at e
      exact e.symm
    rw [if_neg h6, ht, if_neg (by omega), if_pos (by omega)]
/-- what opening takes is a frame -/
theorem open_ok {t b : List UInt8} (h : openL t = (b, 0)) : t = frame b ∧ b.length ≤ 1024 := by
  unfold openL at h
  by_cases h1 : t.length < 6
  · rw [if_pos h1] at h; simp at h
  · rw [if_neg h1] at h
    by_cases h2 : 1024 < told t
    · rw [if_pos h2] at h; simp at h
    · rw [if_neg h2] at h
      by_cases h3 : t.length < told t + 6
      · rw [if_pos h3] at h; simp at h
      · rw [if_neg h3] at h
        by_cases h4 : told t + 6 < t.length
        · rw [if_pos h4] at h; simp at h
        · rw [if_neg h4] at h
          by_cases h5 : t.drop (told t + 2) = four (sum (t.take (told t + 2)))
          · rw [if_pos h5] at h
            simp only [Prod.mk.injEq, and_true] at h
            have hbl : b.length = told t := by rw [← h, List.length_take, List.length_drop]; omega
            have e1 : hdr b.length ++ b = t.take (told t + 2) := by
              rw [hbl, ← h]
              exact hdr_take (by omega)
            refine ⟨?_, by omega⟩
            unfold frame
            rw [e1, ← h5, List.take_append_drop]
          · rw [if_neg h5] at h; simp at h
/-- an answer that isn't well has no body -/
theorem open_bad {t b : List UInt8} {e : Int} (h : openL t = (b, e)) (he : e ≠ 0) : b = [] := by
  unfold openL at h
  split at h
  · injection h with h; exact h.symm
  · split at h
    · injection h with h; exact h.symm
    · split at h
      · injection h with h; exact h.symm
      · split at h
        · injection h with h; exact h.symm
        · split at h
          · injection h with _ h2; exact absurd h2.symm he
          · injection h with h; exact h.symm
theorem xor_join (n x k : Nat) (h : x < 2 ^ k) : 2 ^ k * n ^^^ x = 2 ^ k * n + x := by
  apply Nat.eq_of_testBit_eq
  intro i
  rw [Nat.testBit_xor, Nat.testBit_two_pow_mul_add _ h, Nat.testBit_two_pow_mul]
  by_cases hi : i < k
  · rw [if_pos hi]
    simp [Nat.not_le.2 hi]
  · rw [if_neg hi]
    have : x.testBit i = false := Nat.testBit_lt_two_pow (Nat.lt_of_lt_of_le h (Nat.pow_le_pow_right (by decide) (by omega)))
    simp [this, Nat.not_lt.1 hi]
theorem four_word (v : BitVec 32) (a b c d : UInt8) (ha : a = UInt8.ofNat (v.toNat / 16777216)) (hb : b = UInt8.ofNat (v.toNat / 65536)) (hc : c = UInt8.ofNat (v.toNat / 256)) (hd : d = UInt8.ofNat v.toNat) :
    v = top a ^^^ (BitVec.ofNat 32 (b.toNat * 65536) ^^^ (BitVec.ofNat 32 (c.toNat * 256) ^^^ BitVec.ofNat 32 d.toNat)) := by
  have hv := v.isLt
  have a0 : a.toNat = v.toNat / 16777216 % 256 := by rw [ha, UInt8.toNat_ofNat']
  have b0 : b.toNat = v.toNat / 65536 % 256 := by rw [hb, UInt8.toNat_ofNat']
  have c0 : c.toNat = v.toNat / 256 % 256 := by rw [hc, UInt8.toNat_ofNat']
  have d0 : d.toNat = v.toNat % 256 := by rw [hd, UInt8.toNat_ofNat']
  apply BitVec.eq_of_toNat_eq
  unfold top
  rw [BitVec.toNat_xor, BitVec.toNat_xor, BitVec.toNat_xor, BitVec.toNat_ofNat, BitVec.toNat_ofNat, BitVec.toNat_ofNat, BitVec.toNat_ofNat, Nat.mod_eq_of_lt (by omega), Nat.mod_eq_of_lt (by omega), Nat.mod_eq_of_lt (by omega), Nat.mod_eq_of_lt (by omega)]
  have e1 := xor_join c.toNat d.toNat 8 (by omega)
  have e2 := xor_join b.toNat (2 ^ 8 * c.toNat + d.toNat) 16 (by omega)
  have e3 := xor_join a.toNat (2 ^ 16 * b.toNat + (2 ^ 8 * c.toNat + d.toNat)) 24 (by omega)
  rw [show c.toNat * 256 = 2 ^ 8 * c.toNat from by omega, e1, show b.toNat * 65536 = 2 ^ 16 * b.toNat from by omega, e2, show a.toNat * 16777216 = 2 ^ 24 * a.toNat from by omega, e3]
  omega
/-- a register, and its own four bytes: nought -/
theorem four_bytes (v : BitVec 32) : crc v (four v) = 0#32 := by
  refine (crc_own rfl).2 fun a b c d h => ?_
  simp only [four, List.cons.injEq, and_true] at h
  exact four_word v a b c d h.1.symm h.2.1.symm h.2.2.1.symm h.2.2.2.symm
theorem four_only {v : BitVec 32} {l : List UInt8} (hl : l.length = 4) (h : crc v l = 0#32) : l = four v := by
  match l, hl with
  | [a, b, c, d], _ =>
    have e := (crc_own rfl).1 h a b c d rfl
    have k : crc v [a, b, c, d] = crc v (four v) := by rw [h, four_bytes]
    exact crc_burst (pre := []) (post := []) (v := v) rfl (by simp) (by simpa using k)
/-- a frame is taken just if the register is nought behind it -/
theorem frame_zero (b : List UInt8) : sum (frame b) = 0#32 := by
  unfold frame sum
  rw [crc_append]
  exact four_bytes _
/-- a text as long as a frame, with its length, in which up to four neighbouring bytes are other ones -/
theorem open_spoilt {b pre x y post : List UInt8} (hb : b.length ≤ 1024) (hf : frame b = pre ++ x ++ post) (hp : 2 ≤ pre.length) (hl : x.length = y.length) (h4 : x.length ≤ 4) (hne : x ≠ y) : openL (pre ++ y ++ post) = ([], 4) := by
  have hlen : (pre ++ y ++ post).length = b.length + 6 := by
    rw [← frame_length b, hf]
    simp only [List.length_append]
    omega
  have ht : told (pre ++ y ++ post) = b.length := by
    have h1 := (frame_parts b [] hb).1
    rw [List.append_nil, hf, List.append_assoc, told_append hp] at h1
    rw [List.append_assoc, told_append hp, h1]
  have hs : sum (pre ++ y ++ post) ≠ 0#32 := by
    intro h0
    have h1 := frame_zero b
    rw [hf] at h1
    exact hne (crc_burst hl h4 (h1.trans h0.symm))
  have hd : ¬ (pre ++ y ++ post).drop (b.length + 2) = four (sum ((pre ++ y ++ post).take (b.length + 2))) := by
    intro he
    apply hs
    have e := List.take_append_drop (b.length + 2) (pre ++ y ++ post)
    rw [← e, he]
    unfold sum
    rw [crc_append]
    exact four_bytes _
  unfold openL
  rw [hlen, ht, if_neg (by omega), if_neg (by omega), if_neg (by omega), if_neg (by omega), if_neg hd]
end Go.Proofs.Ytfmhfngilimhjaa.Crc


/- What the document says of telegrams, and of who receives them, as plain functions; nothing here speaks of the program. -/
import Derived.Test.YtcencpkoimahbaaPfacts
import Derived.Test.YtcencpkoimahbaaFrame
import Derived.Test.YtcencpkoimahbaaQlost
namespace Go.Proofs.Ytcencpkoimahbaa.Li
open Go.RowKit

def headB (p n s : Int) : List UInt8 := Pk.digits 1 p ++ (Pk.digits 2 n ++ Pk.digits 4 s)
def fitsB (p n s : Int) : Bool := Pk.fits 1 p && (Pk.fits 2 n && Pk.fits 4 s)
/-- a telegram, and the error -/
def makeL (p n s : Int) (x : List UInt8) : List UInt8 × Int :=
  if fitsB p n s = true then (if 1000 < x.length then ([], 2) else (Crc.frame (headB p n s ++ x), 0)) else ([], 32)
/-- what a telegram says -/
structure T where
  p : Int
  n : Int
  s : Int
  x : List UInt8
  e : Int
def bodyL (b : List UInt8) : T := ⟨Pa.val (b.take 1), Pa.val ((b.drop 1).take 2), Pa.val ((b.drop 3).take 4), b.drop 7, 0⟩
def readB (o : List UInt8 × Int) : T := if o.2 ≠ 0 then ⟨0, 0, 0, [], o.2⟩ else if o.1.length < 7 then ⟨0, 0, 0, [], 3⟩ else if 1007 < o.1.length then ⟨0, 0, 0, [], 2⟩ else bodyL o.1
def readL (l : List UInt8) : T := readB (Crc.openL l)

theorem head_length (p n s : Int) : (headB p n s).length = 7 := by simp [headB, Pk.digits_length]
theorem fits_bd {width : Nat} {n : Int} (h : Pk.fits width n = true) : 0 ≤ n ∧ n < 2 ^ (8 * width) := by
  unfold Pk.fits at h
  simp only [Bool.and_eq_true, decide_eq_true_eq] at h
  exact h
theorem fitsB_ok {p n s : Int} (h : fitsB p n s = true) : Pk.fits 1 p = true ∧ Pk.fits 2 n = true ∧ Pk.fits 4 s = true := by
  unfold fitsB at h
  simp only [Bool.and_eq_true] at h
  exact h
theorem body_head {p n s : Int} (h : fitsB p n s = true) (x : List UInt8) : bodyL (headB p n s ++ x) = ⟨p, n, s, x, 0⟩ := by
  obtain ⟨h1, h2, h3⟩ := fitsB_ok h
  have l1 := Pk.digits_length 1 p
  have l2 := Pk.digits_length 2 n
  have l4 := Pk.digits_length 4 s
  have e1 : (headB p n s ++ x).take 1 = Pk.digits 1 p := by
    unfold headB
    rw [List.append_assoc, List.take_left' l1]
  have d1 : (headB p n s ++ x).drop 1 = Pk.digits 2 n ++ (Pk.digits 4 s ++ x) := by
    unfold headB
    rw [List.append_assoc, List.drop_left' l1, List.append_assoc]
  have d3 : (headB p n s ++ x).drop 3 = Pk.digits 4 s ++ x := by
    rw [show 3 = 1 + 2 from rfl, ← List.drop_drop, d1, List.drop_left' l2]
  have d7 : (headB p n s ++ x).drop 7 = x := by
    rw [show 7 = 3 + 4 from rfl, ← List.drop_drop, d3, List.drop_left' l4]
  unfold bodyL
  rw [e1, d1, d3, d7, List.take_left' l2, List.take_left' l4, Pa.val_digits (.inl rfl) h1, Pa.val_digits (.inr (.inl rfl)) h2, Pa.val_digits (.inr (.inr rfl)) h3]
theorem make_ok {p n s : Int} {x : List UInt8} (h : (makeL p n s x).2 = 0) : fitsB p n s = true ∧ x.length ≤ 1000 ∧ makeL p n s x = (Crc.frame (headB p n s ++ x), 0) := by
  unfold makeL at *
  by_cases h1 : fitsB p n s = true
  · rw [if_pos h1] at *
    by_cases h2 : 1000 < x.length
    · rw [if_pos h2] at h; cases h
    · rw [if_neg h2]; exact ⟨h1, by omega, rfl⟩
  · rw [if_neg h1] at h; cases h
theorem make_fine {p n s : Int} {x : List UInt8} (h : fitsB p n s = true) (hx : x.length ≤ 1000) : makeL p n s x = (Crc.frame (headB p n s ++ x), 0) := by
  unfold makeL
  rw [if_pos h, if_neg (by omega)]
theorem make_bad {p n s : Int} {x : List UInt8} (h : (makeL p n s x).2 ≠ 0) : (makeL p n s x).1 = [] := by
  unfold makeL at *
  by_cases h1 : fitsB p n s = true
  · rw [if_pos h1] at *
    by_cases h2 : 1000 < x.length
    · rw [if_pos h2]
    · rw [if_neg h2] at h; exact absurd rfl h
  · rw [if_neg h1]
theorem make_size (p n s : Int) (x : List UInt8) : (makeL p n s x).1.length ≤ 1013 := by
  by_cases h : (makeL p n s x).2 = 0
  · obtain ⟨h1, h2, h3⟩ := make_ok h
    rw [h3]
    show (Crc.frame _).length ≤ 1013
    rw [Crc.frame_length, List.length_append, head_length]
    omega
  · rw [make_bad h]; simp
theorem read_body {b : List UInt8} (h7 : 7 ≤ b.length) (h : b.length ≤ 1007) : readL (Crc.frame b) = bodyL b := by
  unfold readL readB
  rw [Crc.open_frame b (by omega)]
  simp only
  rw [if_neg (by simp), if_neg (by omega), if_neg (by omega)]
/-- what was made is read -/
theorem read_make {p n s : Int} {x : List UInt8} (h : (makeL p n s x).2 = 0) : readL (makeL p n s x).1 = ⟨p, n, s, x, 0⟩ := by
  obtain ⟨h1, h2, h3⟩ := make_ok h
  rw [h3]
  simp only
  rw [read_body (by rw [List.length_append, head_length]; omega) (by rw [List.length_append, head_length]; omega), body_head h1]
theorem read_ok {l : List UInt8} (h : (readL l).e = 0) : ∃ b, l = Crc.frame b ∧ 7 ≤ b.length ∧ b.length ≤ 1007 ∧ readL l = bodyL b := by
  unfold readL readB at *
  by_cases h1 : (Crc.openL l).2 ≠ 0
  · rw [if_pos h1] at h; exact absurd h h1
  · rw [if_neg h1] at *
    by_cases h2 : (Crc.openL l).1.length < 7
    · rw [if_pos h2] at h; cases h
    · rw [if_neg h2] at *
      by_cases h3 : 1007 < (Crc.openL l).1.length
      · rw [if_pos h3] at h; cases h
      · rw [if_neg h3]
        have h4 : (Crc.openL l).2 = 0 := Decidable.not_not.1 h1
        have hp : Crc.openL l = ((Crc.openL l).1, 0) := Prod.ext rfl h4
        obtain ⟨h5, h6⟩ := Crc.open_ok hp
        exact ⟨_, h5, by omega, by omega, rfl⟩
theorem read_bad {l : List UInt8} (h : (readL l).e ≠ 0) : (readL l).p = 0 ∧ (readL l).n = 0 ∧ (readL l).s = 0 ∧ (readL l).x = [] := by
  unfold readL readB at *
  by_cases h1 : (Crc.openL l).2 ≠ 0
  · rw [if_pos h1]; exact ⟨rfl, rfl, rfl, rfl⟩
  · rw [if_neg h1] at *
    by_cases h2 : (Crc.openL l).1.length < 7
    · rw [if_pos h2]; exact ⟨rfl, rfl, rfl, rfl⟩
    · rw [if_neg h2] at *
      by_cases h3 : 1007 < (Crc.openL l).1.length
      · rw [if_pos h3]; exact ⟨rfl, rfl, rfl, rfl⟩
      · rw [if_neg h3] at h; exact absurd rfl h

/-! bytes that tell a number are the number's bytes -/
theorem byte_of (b : UInt8) (m : Int) (h : m = (b.toNat : Int)) (width : Nat) (n : Int) (i : Nat) (hm : n / 2 ^ (8 * (width - 1 - i)) % 256 = m) : Pk.dig width n i = b := by
  apply UInt8.toNat_inj.1
  have := Pa.dig_toNat width n i
  omega
theorem digits_val {width : Nat} (hw : Pa.Wid width) (l : List UInt8) (hl : l.length = width) : Pk.digits width (Pa.val l) = l ∧ Pk.fits width (Pa.val l) = true := by
  constructor
  · rcases hw with rfl | rfl | rfl
    · match l, hl with
      | [a], _ =>
        have ha := UInt8.toNat_lt a
        have e : Pa.val [a] = (a.toNat : Int) := by simp [Pa.val]
        rw [e]
        show [Pk.dig 1 _ 0] = _
        rw [byte_of a _ rfl 1 _ 0 (by simp; omega)]
    · match l, hl with
      | [a, b], _ =>
        have ha := UInt8.toNat_lt a
        have hb := UInt8.toNat_lt b
        have e : Pa.val [a, b] = (a.toNat : Int) * 256 + (b.toNat : Int) := by simp [Pa.val]
        rw [e]
        show [Pk.dig 2 _ 0, Pk.dig 2 _ 1] = _
        rw [byte_of a _ rfl 2 _ 0 (by simp; omega), byte_of b _ rfl 2 _ 1 (by simp; omega)]
    · match l, hl with
      | [a, b, c, d], _ =>
        have ha := UInt8.toNat_lt a
        have hb := UInt8.toNat_lt b
        have hc := UInt8.toNat_lt c
        have hd := UInt8.toNat_lt d
        have e : Pa.val [a, b, c, d] = (((a.toNat : Int) * 256 + (b.toNat : Int)) * 256 + (c.toNat : Int)) * 256 + (d.toNat : Int) := by simp [Pa.val]
        rw [e]
        show [Pk.dig 4 _ 0, Pk.dig 4 _ 1, Pk.dig 4 _ 2, Pk.dig 4 _ 3] = _
        rw [byte_of a _ rfl 4 _ 0 (by simp; omega), byte_of b _ rfl 4 _ 1 (by simp; omega), byte_of c _ rfl 4 _ 2 (by simp; omega), byte_of d _ rfl 4 _ 3 (by simp; omega)]
  · have hb := Pa.val_take_bd l width (by omega)
    rw [List.take_of_length_le (by omega)] at hb
    refine Pa.fits_of hb.1 ?_
    have : (256 : Int) ^ width = 2 ^ (8 * width) := by
      rcases hw with rfl | rfl | rfl <;> rfl
    omega
/-- what is read would be made so -/
theorem make_read {l : List UInt8} (h : (readL l).e = 0) : makeL (readL l).p (readL l).n (readL l).s (readL l).x = (l, 0) := by
  obtain ⟨b, h1, h2, h3, h4⟩ := read_ok h
  rw [h4]
  have l1 : (b.take 1).length = 1 := by rw [List.length_take]; omega
  have l2 : ((b.drop 1).take 2).length = 2 := by rw [List.length_take, List.length_drop]; omega
  have l4 : ((b.drop 3).take 4).length = 4 := by rw [List.length_take, List.length_drop]; omega
  obtain ⟨d1, f1⟩ := digits_val (.inl rfl) _ l1
  obtain ⟨d2, f2⟩ := digits_val (.inr (.inl rfl)) _ l2
  obtain ⟨d4, f4⟩ := digits_val (.inr (.inr rfl)) _ l4
  have hf : fitsB (bodyL b).p (bodyL b).n (bodyL b).s = true := by
    unfold fitsB bodyL
    simp only [f1, f2, f4, Bool.and_self]
  have hb : headB (bodyL b).p (bodyL b).n (bodyL b).s ++ (bodyL b).x = b := by
    unfold headB bodyL
    simp only
    rw [d1, d2, d4, List.append_assoc, List.append_assoc]
    have k1 := List.take_append_drop 1 b
    have k2 := List.take_append_drop 2 (b.drop 1)
    have k4 := List.take_append_drop 4 (b.drop 3)
    rw [List.drop_drop] at k2 k4
    rw [k4, k2, k1]
  rw [make_fine hf (by show (b.drop 7).length ≤ 1000; rw [List.length_drop]; omega), hb, ← h1]
theorem read_bd {l : List UInt8} (h : (readL l).e = 0) : 0 ≤ (readL l).p ∧ (readL l).p < 256 ∧ 0 ≤ (readL l).n ∧ (readL l).n < 65536 ∧ 0 ≤ (readL l).s ∧ (readL l).s < 4294967296 ∧ (readL l).x.length ≤ 1000 := by
  have k := make_read h
  obtain ⟨h1, h2, h3⟩ := make_ok (p := (readL l).p) (n := (readL l).n) (s := (readL l).s) (x := (readL l).x) (by rw [k])
  obtain ⟨f1, f2, f4⟩ := fitsB_ok h1
  have b1 := fits_bd f1
  have b2 := fits_bd f2
  have b4 := fits_bd f4
  exact ⟨b1.1, b1.2, b2.1, b2.2, b4.1, b4.2, h2⟩
/-- telegrams that say the same are the same -/
theorem read_inj {l l' : List UInt8} (h : (readL l).e = 0) (h' : readL l' = readL l) : l' = l := by
  have k := make_read h
  have k' := make_read (l := l') (by rw [h']; exact h)
  rw [h', k] at k'
  injection k' with e
  exact e.symm

/-! the writer's way to the head -/
theorem nums_head (p n s : Int) : ((((⟨7, [], 0⟩ : Pk.S).num 1 p).num 2 n).num 4 s).done = if fitsB p n s = true then (headB p n s, 0) else ([], 32) := by
  have l1 := Pk.digits_length 1 p
  have l2 := Pk.digits_length 2 n
  have l4 := Pk.digits_length 4 s
  unfold fitsB
  by_cases h1 : Pk.fits 1 p = true
  · have e1 : (⟨7, [], 0⟩ : Pk.S).num 1 p = ⟨7, Pk.digits 1 p, 0⟩ := by
      unfold Pk.S.num Pk.S.put
      rw [if_pos h1, if_pos rfl, if_pos (by rw [l1]; decide)]
      rfl
    rw [e1]
    by_cases h2 : Pk.fits 2 n = true
    · have e2 : (⟨7, Pk.digits 1 p, 0⟩ : Pk.S).num 2 n = ⟨7, Pk.digits 1 p ++ Pk.digits 2 n, 0⟩ := by
        unfold Pk.S.num Pk.S.put
        rw [if_pos h2, if_pos rfl, if_pos (by simp only [l1, l2]; decide)]
      rw [e2]
      by_cases h4 : Pk.fits 4 s = true
      · have e4 : (⟨7, Pk.digits 1 p ++ Pk.digits 2 n, 0⟩ : Pk.S).num 4 s = ⟨7, Pk.digits 1 p ++ Pk.digits 2 n ++ Pk.digits 4 s, 0⟩ := by
          unfold Pk.S.num Pk.S.put
          rw [if_pos h4, if_pos rfl, if_pos (by simp only [List.length_append, l1, l2, l4]; decide)]
        rw [e4, h1, h2, h4]
        show (Pk.digits 1 p ++ Pk.digits 2 n ++ Pk.digits 4 s, (0 : Int)) = (headB p n s, 0)
        rw [List.append_assoc]
        rfl
      · have e4 : (⟨7, Pk.digits 1 p ++ Pk.digits 2 n, 0⟩ : Pk.S).num 4 s = ⟨7, Pk.digits 1 p ++ Pk.digits 2 n, 32⟩ := by
          unfold Pk.S.num Pk.S.fail
          rw [if_neg h4, if_pos rfl]
        rw [e4, if_neg (by simp [h4])]
        rfl
    · have e2 : (⟨7, Pk.digits 1 p, 0⟩ : Pk.S).num 2 n = ⟨7, Pk.digits 1 p, 32⟩ := by
        unfold Pk.S.num Pk.S.fail
        rw [if_neg h2, if_pos rfl]
      rw [e2, Pk.S.num_bad (show (32 : Int) ≠ 0 by decide), if_neg (by simp [h2])]
      rfl
  · have e1 : (⟨7, [], 0⟩ : Pk.S).num 1 p = ⟨7, [], 32⟩ := by
      unfold Pk.S.num Pk.S.fail
      rw [if_neg h1, if_pos rfl]
    rw [e1, Pk.S.num_bad (s := ⟨7, [], 32⟩) (show (32 : Int) ≠ 0 by decide) 2 n, Pk.S.num_bad (s := ⟨7, [], 32⟩) (show (32 : Int) ≠ 0 by decide) 4 s, if_neg (by simp [h1])]
    rfl

/-- A receiver as plain data. -/
structure R where
  begun : Bool
  newest : Int
  lost : Int
  peer : Int
  age : Int
  last : Int
namespace R
def new (peer age : Int) : R := ⟨false, 0, 0, peer, age, -1⟩
def add (r : R) (n : Int) : R := if r.begun = true then { r with lost := r.lost + (Sq.lostStep (0, r.newest) n).1, newest := (Sq.lostStep (0, r.newest) n).2 } else { r with begun := true, newest := n }
def refuse (r : R) (now peer stamp : Int) : Int := if peer ≠ r.peer then 16 else if now < stamp then 19 else if r.age < now - stamp then 17 else if stamp ≤ r.last then 18 else 0
/-- what a reading that was right leads to: the payload, the error, the receiver -/
def take (r : R) (now : Int) (t : T) : List UInt8 × Int × R :=
  if t.e ≠ 0 then ([], t.e, r) else if r.refuse now t.p t.s ≠ 0 then ([], r.refuse now t.p t.s, r) else (t.x, 0, { r with last := t.s }.add t.n)
def alive (r : R) (now : Int) : Bool := decide (0 ≤ r.last) && (decide (r.last ≤ now) && decide (now - r.last ≤ r.age))
end R
end Go.Proofs.Ytcencpkoimahbaa.Li

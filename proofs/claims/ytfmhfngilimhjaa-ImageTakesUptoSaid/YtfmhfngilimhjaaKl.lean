/- Contracts and plain mathematics of earlier stages: Teleg, Tmake, Tread, Recv, Recvt. -/
import Derived.Test.YtfmhfngilimhjaaKr
import Derived.Test.YtfmhfngilimhjaaKm
import Derived.Test.YtfmhfngilimhjaaKq
import Derived.Test.YtfmhfngilimhjaaKp
import Derived.Test.YtfmhfngilimhjaaKs
import Derived.Deep.RegionHeld3
import Derived.Test.YtfmhfngilimhjaaKa
namespace Go.Proofs.Ytfmhfngilimhjaa.Li
open Go.RowKit

def headB (p n s : Int) : List UInt8 := Pk.digits 1 p ++ (Pk.digits 2 n ++ Pk.digits 4 s)
def fitsB (p n s : Int) : Bool := Pk.fits 1 p && (Pk.fits 2 n && Pk.fits 4 s)
/-- a telegram, and the error -/
def makeL (p n s : Int) (x : List UInt8) : List UInt8 × Int :=
  if fitsB p n s = true then (if 1000 < x.length then ([], 2) else (Crc.frame (headB p n s ++ x), 0)) else ([], 32)
/-- what a telegram says -/
structure T where
  p : Int
  n : Int
  s : Int
  x : List UInt8
  e : Int
def bodyL (b : List UInt8) : T := ⟨Pa.val (b.take 1), Pa.val ((b.drop 1).take 2), Pa.val ((b.drop 3).take 4), b.drop 7, 0⟩
def readB (o : List UInt8 × Int) : T := if o.2 ≠ 0 then ⟨0, 0, 0, [], o.2⟩ else if o.1.length < 7 then ⟨0, 0, 0, [], 3⟩ else if 1007 < o.1.length then ⟨0, 0, 0, [], 2⟩ else bodyL o.1
def readL (l : List UInt8) : T := readB (Crc.openL l)

theorem head_length (p n s : Int) : (headB p n s).length = 7 := by simp [headB, Pk.digits_length]
theorem fits_bd {width : Nat} {n : Int} (h : Pk.fits width n = true) : 0 ≤ n ∧ n < 2 ^ (8 * width) := by
  unfold Pk.fits at h
  simp only [Bool.and_eq_true, decide_eq_true_eq] at h
  exact h
theorem fitsB_ok {p n s : Int} (h : fitsB p n s = true) : Pk.fits 1 p = true ∧ Pk.fits 2 n = true ∧ Pk.fits 4 s = true := by
  unfold fitsB at h
  simp only [Bool.and_eq_true] at h
  exact h
theorem body_head {p n s : Int} (h : fitsB p n s = true) (x : List UInt8) : bodyL (headB p n s ++ x) = ⟨p, n, s, x, 0⟩ := by
  obtain ⟨h1, h2, h3⟩ := fitsB_ok h
  have l1 := Pk.digits_length 1 p
  have l2 := Pk.digits_length 2 n
  have l4 := Pk.digits_length 4 s
  have e1 : (headB p n s ++ x).take 1 = Pk.digits 1 p := by
    unfold headB
    rw [List.append_assoc, List.take_left' l1]
  have d1 : (headB p n s ++ x).drop 1 = Pk.digits 2 n ++ (Pk.digits 4 s ++ x) := by
    unfold headB
    rw [List.append_assoc, List.drop_left' l1, List.append_assoc]
  have d3 : (headB p n s ++ x).drop 3 = Pk.digits 4 s ++ x := by
    rw [show 3 = 1 + 2 from rfl, ← List.drop_drop, d1, List.drop_left' l2]
  have d7 : (headB p n s ++ x).drop 7 = x := by
    rw [show 7 = 3 + 4 from rfl, ← List.drop_drop, d3, List.drop_left' l4]
  unfold bodyL
  rw [e1, d1, d3, d7, List.take_left' l2, List.take_left' l4, Pa.val_digits (.inl rfl) h1, Pa.val_digits (.inr (.inl rfl)) h2, Pa.val_digits (.inr (.inr rfl)) h3]
theorem make_ok {p n s : Int} {x : List UInt8} (h : (makeL p n s x).2 = 0) : fitsB p n s = true ∧ x.length ≤ 1000 ∧ makeL p n s x = (Crc.frame (headB p n s ++ x), 0) := by
  unfold makeL at *
  by_cases h1 : fitsB p n s = true
  · rw [if_pos h1] at *
    by_cases h2 : 1000 < x.length
    · rw [if_pos h2] at h; cases h
    · rw [if_neg h2]; exact ⟨h1, by omega, rfl⟩
  · rw [if_neg h1] at h; cases h
theorem make_fine {p n s : Int} {x : List UInt8} (h : fitsB p n s = true) (hx : x.length ≤ 1000) : makeL p n s x = (Crc.frame (headB p n s ++ x), 0) := by
  unfold makeL
  rw [if_pos h, if_neg (by omega)]
theorem make_bad {p n s : Int} {x : List UInt8} (h : (makeL p n s x).2 ≠ 0) : (makeL p n s x).1 = [] := by
  unfold makeL at *
  by_cases h1 : fitsB p n s = true
  · rw [if_pos h1] at *
    by_cases h2 : 1000 < x.length
    · rw [if_pos h2]
    · rw [if_neg h2] at h; exact absurd rfl h
  · rw [if_neg h1]
theorem make_size (p n s : Int) (x : List UInt8) : (makeL p n s x).1.length ≤ 1013 := by
  by_cases h : (makeL p n s x).2 = 0
  · obtain ⟨h1, h2, h3⟩ := make_ok h
    rw [h3]
    show (Crc.frame _).length ≤ 1013
    rw [Crc.frame_length, List.length_append, head_length]
    omega
  · rw [make_bad h]; simp
theorem read_body {b : List UInt8} (h7 : 7 ≤ b.length) (h : b.length ≤ 1007) : readL (Crc.frame b) = bodyL b := by
  unfold readL readB
  rw [Crc.open_frame b (by omega)]
  simp only
  rw [if_neg (by simp), if_neg (by omega), if_neg (by omega)]
/-- what was made is read -/
theorem read_make {p n s : Int} {x : List UInt8} (h : (makeL p n s x).2 = 0) : readL (makeL p n s x).1 = ⟨p, n, s, x, 0⟩ := by
  obtain ⟨h1, h2, h3⟩ := make_ok h
  rw [h3]
  simp only
  rw [read_body (by rw [List.length_append, head_length]; omega) (by rw [List.length_append, head_length]; omega), body_head h1]
theorem read_ok {l : List UInt8} (h : (readL l).e = 0) : ∃ b, l = Crc.frame b ∧ 7 ≤ b.length ∧ b.length ≤ 1007 ∧ readL l = bodyL b := by
  unfold readL readB at *
  by_cases h1 : (Crc.openL l).2 ≠ 0
  · rw [if_pos h1] at h; exact absurd h h1
  · rw [if_neg h1] at *
    by_cases h2 : (Crc.openL l).1.length < 7
    · rw [if_pos h2] at h; cases h
    · rw [if_neg h2] at *
      by_cases h3 : 1007 < (Crc.openL l).1.length
      · rw [if_pos h3] at h; cases h
      · rw [if_neg h3]
        have h4 : (Crc.openL l).2 = 0 := Decidable.not_not.1 h1
        have hp : Crc.openL l = ((Crc.openL l).1, 0) := Prod.ext rfl h4
        obtain ⟨h5, h6⟩ := Crc.open_ok hp
        exact ⟨_, h5, by omega, by omega, rfl⟩
theorem read_bad {l : List UInt8} (h : (readL l).e ≠ 0) : (readL l).p = 0 ∧ (readL l).n = 0 ∧ (readL l).s = 0 ∧ (readL l).x = [] := by
  unfold readL readB at *
  by_cases h1 : (Crc.openL l).2 ≠ 0
  · rw [if_pos h1]; exact ⟨rfl, rfl, rfl, rfl⟩
  · rw [if_neg h1] at *
    by_cases h2 : (Crc.openL l).1.length < 7
    · rw [if_pos h2]; exact ⟨rfl, rfl, rfl, rfl⟩
    · rw [if_neg h2] at *
      by_cases h3 : 1007 < (Crc.openL l).1.length
      · rw [if_pos h3]; exact ⟨rfl, rfl, rfl, rfl⟩
      · rw [if_neg h3] at h; exact absurd rfl h

/-! bytes that tell a number are the number's bytes -/
theorem byte_of (b : UInt8) (m : Int) (h : m = (b.toNat : Int)) (width : Nat) (n : Int) (i : Nat) (hm : n / 2 ^ (8 * (width - 1 - i)) % 256 = m) : Pk.dig width n i = b := by
  apply UInt8.toNat_inj.1
  have := Pa.dig_toNat width n i
  omega
theorem digits_val {width : Nat} (hw : Pa.Wid width) (l : List UInt8) (hl : l.length = width) : Pk.digits width (Pa.val l) = l ∧ Pk.fits width (Pa.val l) = true := by
  constructor
  · rcases hw with rfl | rfl | rfl
    · match l, hl with
      | [a], _ =>
        have ha := UInt8.toNat_lt a
        have e : Pa.val [a] = (a.toNat : Int) := by simp [Pa.val]
        rw [e]
        show [Pk.dig 1 _ 0] = _
        rw [byte_of a _ rfl 1 _ 0 (by simp; omega)]
    · match l, hl with
      | [a, b], _ =>
        have ha := UInt8.toNat_lt a
        have hb := UInt8.toNat_lt b
        have e : Pa.val [a, b] = (a.toNat : Int) * 256 + (b.toNat : Int) := by simp [Pa.val]
        rw [e]
        show [Pk.dig 2 _ 0, Pk.dig 2 _ 1] = _
        rw [byte_of a _ rfl 2 _ 0 (by simp; omega), byte_of b _ rfl 2 _ 1 (by simp; omega)]
    · match l, hl with
      | [a, b, c, d], _ =>
        have ha := UInt8.toNat_lt a
        have hb := UInt8.toNat_lt b
        have hc := UInt8.toNat_lt c
        have hd := UInt8.toNat_lt d
        have e : Pa.val [a, b, c, d] = (((a.toNat : Int) * 256 + (b.toNat : Int)) * 256 + (c.toNat : Int)) * 256 + (d.toNat : Int) := by simp [Pa.val]
        rw [e]
        show [Pk.dig 4 _ 0, Pk.dig 4 _ 1, Pk.dig 4 _ 2, Pk.dig 4 _ 3] = _
        rw [byte_of a _ rfl 4 _ 0 (by simp; omega), byte_of b _ rfl 4 _ 1 (by simp; omega), byte_of c _ rfl 4 _ 2 (by simp; omega), byte_of d _ rfl 4 _ 3 (by simp; omega)]
  · have hb := Pa.val_take_bd l width (by omega)
    rw [List.take_of_length_le (by omega)] at hb
    refine Pa.fits_of hb.1 ?_
    have : (256 : Int) ^ width = 2 ^ (8 * width) := by
      rcases hw with rfl | rfl | rfl <;> rfl
    omega
/-- what is read would be made so -/
theorem make_read {l : List UInt8} (h : (readL l).e = 0) : makeL (readL l).p (readL l).n (readL l).s (readL l).x = (l, 0) := by
  obtain ⟨b, h1, h2, h3, h4⟩ := read_ok h
  rw [h4]
  have l1 : (b.take 1).length = 1 := by rw [List.length_take]; omega
  have l2 : ((b.drop 1).take 2).length = 2 := by rw [List.length_take, List.length_drop]; omega
  have l4 : ((b.drop 3).take 4).length = 4 := by rw [List.length_take, List.length_drop]; omega
  obtain ⟨d1, f1⟩ := digits_val (.inl rfl) _ l1
  obtain ⟨d2, f2⟩ := digits_val (.inr (.inl rfl)) _ l2
  obtain ⟨d4, f4⟩ := digits_val (.inr (.inr rfl)) _ l4
  have hf : fitsB (bodyL b).p (bodyL b).n (bodyL b).s = true := by
    unfold fitsB bodyL
    simp only [f1, f2, f4, Bool.and_self]
  have hb : headB (bodyL b).p (bodyL b).n (bodyL b).s ++ (bodyL b).x = b := by
    unfold headB bodyL
    simp only
    rw [d1, d2, d4, List.append_assoc, List.append_assoc]
    have k1 := List.take_append_drop 1 b
    have k2 := List.take_append_drop 2 (b.drop 1)
    have k4 := List.take_append_drop 4 (b.drop 3)
    rw [List.drop_drop] at k2 k4
    rw [k4, k2, k1]
  rw [make_fine hf (by show (b.drop 7).length ≤ 1000; rw [List.length_drop]; omega), hb, ← h1]
theorem read_bd {l : List UInt8} (h : (readL l).e = 0) : 0 ≤ (readL l).p ∧ (readL l).p < 256 ∧ 0 ≤ (readL l).n ∧ (readL l).n < 65536 ∧ 0 ≤ (readL l).s ∧ (readL l).s < 4294967296 ∧ (readL l).x.length ≤ 1000 := by
  have k := make_read h
  obtain ⟨h1, h2, h3⟩ := make_ok (p := (readL l).p) (n := (readL l).n) (s := (readL l).s) (x := (readL l).x) (by rw [k])
  obtain ⟨f1, f2, f4⟩ := fitsB_ok h1
  have b1 := fits_bd f1
  have b2 := fits_bd f2
  have b4 := fits_bd f4
  exact ⟨b1.1, b1.2, b2.1, b2.2, b4.1, b4.2, h2⟩
/-- telegrams that say the same are the same -/
theorem read_inj {l l' : List UInt8} (h : (readL l).e = 0) (h' : readL l' = readL l) : l' = l := by
  have k := make_read h
  have k' := make_read (l := l') (by rw [h']; exact h)
  rw [h', k] at k'
  injection k' with e
  exact e.symm

/-! the writer's way to the head -/
theorem nums_head (p n s : Int) : ((((⟨7, [], 0⟩ : Pk.S).num 1 p).num 2 n).num 4 s).done = if fitsB p n s = true then (headB p n s, 0) else ([], 32) := by
  have l1 := Pk.digits_length 1 p
  have l2 := Pk.digits_length 2 n
  have l4 := Pk.digits_length 4 s
  unfold fitsB
  by_cases h1 : Pk.fits 1 p = true
  · have e1 : (⟨7, [], 0⟩ : Pk.S).num 1 p = ⟨7, Pk.digits 1 p, 0⟩ := by
      unfold Pk.S.num Pk.S.put
      rw [if_pos h1, if_pos rfl, if_pos (by rw [l1]; decide)]
      rfl
    rw [e1]
    by_cases h2 : Pk.fits 2 n = true
    · have e2 : (⟨7, Pk.digits 1 p, 0⟩ : Pk.S).num 2 n = ⟨7, Pk.digits 1 p ++ Pk.digits 2 n, 0⟩ := by
        unfold Pk.S.num Pk.S.put
        rw [if_pos h2, if_pos rfl, if_pos (by simp only [l1, l2]; decide)]
      rw [e2]
      by_cases h4 : Pk.fits 4 s = true
      · have e4 : (⟨7, Pk.digits 1 p ++ Pk.digits 2 n, 0⟩ : Pk.S).num 4 s = ⟨7, Pk.digits 1 p ++ Pk.digits 2 n ++ Pk.digits 4 s, 0⟩ := by
          unfold Pk.S.num Pk.S.put
          rw [if_pos h4, if_pos rfl, if_pos (by simp only [List.length_append, l1, l2, l4]; decide)]
        rw [e4, h1, h2, h4]
        show (Pk.digits 1 p ++ Pk.digits 2 n ++ Pk.digits 4 s, (0 : Int)) = (headB p n s, 0)
        rw [List.append_assoc]
        rfl
      · have e4 : (⟨7, Pk.digits 1 p ++ Pk.digits 2 n, 0⟩ : Pk.S).num 4 s = ⟨7, Pk.digits 1 p ++ Pk.digits 2 n, 32⟩ := by
          unfold Pk.S.num Pk.S.fail
          rw [if_neg h4, if_pos rfl]
        rw [e4, if_neg (by simp [h4])]
        rfl
    · have e2 : (⟨7, Pk.digits 1 p, 0⟩ : Pk.S).num 2 n = ⟨7, Pk.digits 1 p, 32⟩ := by
        unfold Pk.S.num Pk.S.fail
        rw [if_neg h2, if_pos rfl]
      rw [e2, Pk.S.num_bad (show (32 : Int) ≠ 0 by decide), if_neg (by simp [h2])]
      rfl
  · have e1 : (⟨7, [], 0⟩ : Pk.S).num 1 p = ⟨7, [], 32⟩ := by
      unfold Pk.S.num Pk.S.fail
      rw [if_neg h1, if_pos rfl]
    rw [e1, Pk.S.num_bad (s := ⟨7, [], 32⟩) (show (32 : Int) ≠ 0 by decide) 2 n, Pk.S.num_bad (s := ⟨7, [], 32⟩) (show (32 : Int) ≠ 0 by decide) 4 s, if_neg (by simp [h1])]
    rfl

/-- A receiver as plain data. -/
structure R where
  begun : Bool
  newest : Int
  lost : Int
  peer : Int
  age : Int
  last : Int
namespace R
def new (peer age : Int) : R := ⟨false, 0, 0, peer, age, -1⟩
def add (r : R) (n : Int) : R := if r.begun = true then { r with lost := r.lost + (Sq.lostStep (0, r.newest) n).1, newest := (Sq.lostStep (0, r.newest) n).2 } else { r with begun := true, newest := n }
def refuse (r : R) (now peer stamp : Int) : Int := if peer ≠ r.peer then 16 else if now < stamp then 19 else if r.age < now - stamp then 17 else if stamp ≤ r.last then 18 else 0
/-- what a reading that was right leads to: the payload, the error, the receiver -/
def take (r : R) (now : Int) (t : T) : List UInt8 × Int × R :=
  if t.e ≠ 0 then ([], t.e, r) else if r.refuse now t.p t.s ≠ 0 then ([], r.refuse now t.p t.s, r) else (t.x, 0, { r with last := t.s }.add t.n)
def alive (r : R) (now : Int) : Bool := decide (0 ≤ r.last) && (decide (r.last ≤ now) && decide (now - r.last ≤ r.age))
end R
end Go.Proofs.Ytfmhfngilimhjaa.Li

namespace Go.Proofs.Ytfmhfngilimhjaa
open Go.RowKit Li

theorem two_rd (w : World) (x y : Value) (t : TypeId) : Rd (w.alloc (.cells #[x, y] t)) (some ⟨w.heap.size, 0, none⟩) [x, y] := fun _ =>
  ⟨w.heap.size, 0, rfl, (Is.new w t #[x, y]).lt, fun j u hu => by
    rw [Nat.zero_add, (Is.new w t #[x, y]).cell]
    show ([x, y].toArray)[j]? = _
    rw [List.getElem?_toArray]
    exact hu⟩
theorem one_rd (w : World) (x : Value) (t : TypeId) : Rd (w.alloc (.cells #[x] t)) (some ⟨w.heap.size, 0, none⟩) [x] := Rd.one w x t
/-- the writer's next number, of a list that is laid just now -/
theorem wr_next {w : World} {b : Nat} {F : Option Nat} {s : Pk.S} (h : Pa.Wr w b F s) (n : Int) :
    Pa.Wr (w.alloc (.cells #[.int .i64 n] 3)) b F s ∧ Rd (w.alloc (.cells #[.int .i64 n] 3)) (some ⟨w.heap.size, 0, none⟩) ([n].map (Value.int .i64)) ∧ blk (some ⟨w.heap.size, 0, none⟩) ≠ some b ∧ (∀ k, F = some k → blk (some ⟨w.heap.size, 0, none⟩) ≠ some k) := by
  refine ⟨h.fr ((Fr.refl (fun _ => False) w).alloc _) id fun _ _ => id, one_rd w _ _, ?_, ?_⟩
  · intro e
    have hl := h.lt
    have e' : w.heap.size = b := by injection e
    omega
  · intro k hk e
    have hl := h.ltF k hk
    have e' : w.heap.size = k := by injection e
    omega

end Go.Proofs.Ytfmhfngilimhjaa

namespace Go.Proofs.Ytfmhfngilimhjaa
open Go.RowKit Li

theorem results_tmp5 {fn : Func} {t u v x y : Tmp} (h : fn.results = #[.tmp t, .tmp u, .tmp v, .tmp x, .tmp y]) (tmps : Array Value) (P : Program) (w : World) :
    (results fn tmps).run P w = .ok (.tuple #[tmps.getD t undef, tmps.getD u undef, tmps.getD v undef, tmps.getD x undef, tmps.getD y undef]) w := by
  simp [results, h]
theorem rs_tk {s : ByteArray} {n : Nat} (h : n ≤ s.size) : (Pa.Rs.mk s false).tk n = s.extract 0 n := by simp [Pa.Rs.tk, Pa.Rs.no, Nat.not_lt.2 h]
theorem rs_aft {s : ByteArray} {n : Nat} (h : n ≤ s.size) : (Pa.Rs.mk s false).aft n = ⟨s.extract n s.size, false⟩ := by simp [Pa.Rs.aft, Pa.Rs.no, Nat.not_lt.2 h]
theorem bytes_head (s : ByteArray) (n : Nat) : bytesOf (s.extract 0 n) = (bytesOf s).take n := by rw [bytesOf_extract, List.drop_zero]
theorem bytes_tail (s : ByteArray) (n : Nat) : bytesOf (s.extract n s.size) = (bytesOf s).drop n := by
  rw [bytesOf_extract, List.take_of_length_le (by rw [bytesOf_length]; omega)]

set_option maxHeartbeats 1000000 in
theorem read_any (s : ByteArray) (w : World) :
    Calls Try.prog 91 #[.string s] w fun e w' => e = .returned (.tuple #[.int .i64 (readL (bytesOf s)).p, .int .i64 (readL (bytesOf s)).n, .int .i64 (readL (bytesOf s)).s, .string ⟨(readL (bytesOf s)).x.toArray⟩, .int .i64 (readL (bytesOf s)).e]) ∧ Fr (fun _ => False) w w' := by
  have K := Se.open_any s w
  unfold readL
  generalize Crc.openL (bytesOf s) = o at *
  obtain ⟨b, e0⟩ := o
  simp only at K
  unfold readB
  simp only
  by_cases he : e0 ≠ 0
  · rw [if_pos he]
    have hb : (e0 != 0) = true := by simpa using he
    clear he
    go_enter Try.func91, Try.ntmps91
    go_wp2_with fail
    refine K.mono ?_
    rintro e w1 ⟨rfl, f1⟩
    have HF := Lib.hid f1
    clear f1 K
    go_wp2_with fail
    (try simp only [Exit.inBlock, Exit.then])
    refine bodyPost_ret (results_tmp5 rfl _ _ _) rfl ?_
    exact ⟨rfl, HF.out⟩
  · rw [if_neg he]
    have he' : e0 = 0 := Decidable.not_not.1 he
    subst he'
    clear he
    have hz : (⟨b.toArray⟩ : ByteArray).size = b.length := rfl
    by_cases h7 : b.length < 7
    · rw [if_pos h7]
      rw [← hz] at h7
      clear hz
      generalize (⟨b.toArray⟩ : ByteArray) = x at *
      go_enter Try.func91, Try.ntmps91
      go_wp2_with fail
      refine K.mono ?_
      rintro e w1 ⟨rfl, f1⟩
      have HF := Lib.hid f1
      clear f1 K
      go_wp2_with fail
      (try simp only [Exit.inBlock, Exit.then])
      refine bodyPost_ret (results_tmp5 rfl _ _ _) rfl ?_
      exact ⟨rfl, HF.out⟩
    · rw [if_neg h7]
      by_cases h8 : 1007 < b.length
      · rw [if_pos h8]
        rw [← hz] at h7 h8
        clear hz
        generalize (⟨b.toArray⟩ : ByteArray) = x at *
        go_enter Try.func91, Try.ntmps91
        go_wp2_with fail
        refine K.mono ?_
        rintro e w1 ⟨rfl, f1⟩
        have HF := Lib.hid f1
        clear f1 K
        go_wp2_with fail
        (try simp only [Exit.inBlock, Exit.then])
        refine bodyPost_ret (results_tmp5 rfl _ _ _) rfl ?_
        exact ⟨rfl, HF.out⟩
      · rw [if_neg h8]
        obtain ⟨x, hx⟩ : ∃ x : ByteArray, x = ⟨b.toArray⟩ := ⟨_, rfl⟩
        have hbx : bytesOf x = b := by rw [hx]; rfl
        rw [← hx] at K hz
        have x7 : 7 ≤ x.size := by omega
        have x8 : x.size ≤ 1007 := by omega
        have z1 : (x.extract 1 x.size).size = x.size - 1 := by rw [ByteArray.size_extract]; omega
        have z2 : ((x.extract 1 x.size).extract 2 (x.extract 1 x.size).size).size = x.size - 3 := by rw [ByteArray.size_extract, z1]; omega
        have HV1 : Hid (Pa.val (bytesOf (x.extract 0 1)) = Pa.val (b.take 1)) := Lib.hid (by rw [bytes_head, hbx])
        have HV2 : Hid (Pa.val (bytesOf ((x.extract 1 x.size).extract 0 2)) = Pa.val ((b.drop 1).take 2)) := Lib.hid (by rw [bytes_head, bytes_tail, hbx])
        have HV4 : Hid (Pa.val (bytesOf (((x.extract 1 x.size).extract 2 (x.extract 1 x.size).size).extract 0 4)) = Pa.val ((b.drop 3).take 4)) := Lib.hid (by rw [bytes_head, bytes_tail, bytes_tail, hbx, List.drop_drop])
        have HX : Hid (x.extract 7 x.size = ⟨(b.drop 7).toArray⟩) := Lib.hid (bytesOf_inj (by rw [bytes_tail, hbx]; rfl))
        have hsl : ∀ W, (Instr.slice 9 (.string x) (some (.int .i64 7)) none none).run Try.prog W = .ok (.string (x.extract 7 x.size)) W := fun W => by
          have k := run_slice_string_l (P := Try.prog) (w := W) 9 x Try.underlying9 .i64 7 (by omega) (by omega)
          exact k
        generalize x.extract 7 x.size = y at *
        clear hz hbx hx h7 h8
        have Z1 := Lib.hid z1
        have Z2 := Lib.hid z2
        have q1 : decide ((x.size : Int) < 7) = false := decide_eq_false (by omega)
        have q2 : decide ((1007 : Int) < x.size) = false := decide_eq_false (by omega)
        have X7 := Lib.hid x7
        clear z1 z2 x7 x8
        go_enter Try.func91, Try.ntmps91
        go_wp2_with fail
        refine K.mono ?_
        rintro e w1 ⟨rfl, f1⟩
        have KR := Pa.read_any x w1
        have HF := Lib.hid (f1.alloc (.cells #[.string x, .bool false] 193))
        have R1 : Pa.Re (w1.alloc (.cells #[.string x, .bool false] 193)) w1.heap.size x false := Is.new _ _ _
        have HS : Hid (w.heap.size ≤ w1.heap.size) := Lib.hid f1.size
        clear f1 K
        obtain ⟨rb, hrb⟩ : ∃ rb, rb = w1.heap.size := ⟨_, rfl⟩
        rw [← hrb] at KR R1 HS
        clear hrb
        go_wp2_with fail
        refine KR.mono ?_
        rintro e w2 ⟨rfl, hw2⟩
        rw [← hw2] at HF R1
        clear hw2 KR
        have z1 := Z1.out
        have z2 := Z2.out
        have x7 := X7.out
        have K1 := Pa.rbyte_any (r := ⟨x, false⟩) R1
        rw [rs_tk (by omega), rs_aft (by omega)] at K1
        simp only at K1
        have K2 : ∀ W, Pa.Re W rb (x.extract 1 x.size) false → _ := fun W h => Pa.rword_any (r := ⟨x.extract 1 x.size, false⟩) h
        rw [rs_tk (by omega), rs_aft (by omega)] at K2
        simp only at K2
        have K4 : ∀ W, Pa.Re W rb ((x.extract 1 x.size).extract 2 (x.extract 1 x.size).size) false → _ := fun W h => Pa.rlong_any (r := ⟨(x.extract 1 x.size).extract 2 (x.extract 1 x.size).size, false⟩) h
        rw [rs_tk (by omega), rs_aft (by omega)] at K4
        simp only at K4
        clear z1 z2 x7 Z1 Z2 X7
        generalize Pa.val (bytesOf (((x.extract 1 x.size).extract 2 (x.extract 1 x.size).size).extract 0 4)) = v4 at *
        generalize Pa.val (bytesOf ((x.extract 1 x.size).extract 0 2)) = v2 at *
        generalize Pa.val (bytesOf (x.extract 0 1)) = v1 at *
        generalize (x.extract 1 x.size).extract 2 (x.extract 1 x.size).size = y2 at *
        generalize x.extract 1 x.size = y1 at *
        have HK2 := Lib.hid K2
        have HK4 := Lib.hid K4
        clear K2 K4
        go_wp2_with fail
        refine K1.mono ?_
        rintro e w3 ⟨rfl, R3, g3⟩
        have K2' := HK2.out _ R3
        clear R1 R3 K1 HK2
        go_wp2_with fail
        refine K2'.mono ?_
        rintro e w4 ⟨rfl, R4, g4⟩
        have K4' := HK4.out _ R4
        clear R4 K2' HK4
        go_wp2_with fail
        refine K4'.mono ?_
        rintro e w5 ⟨rfl, R5, g5⟩
        clear K4' R5
        go_wp2_with fail
        go_quiet (fail)
        go_wp2_with fail
        (try simp only [Exit.inBlock, Exit.then])
        refine bodyPost_ret (results_tmp5 rfl _ _ _) rfl ?_
        rw [HX.out, HV1.out, HV2.out, HV4.out]
        have gg := ((g3.trans g4 fun _ _ h => h).trans g5 fun _ _ h => h)
        exact ⟨rfl, (HF.out.trans gg fun j hj h => by have := HS.out; omega).drewN _⟩
end Go.Proofs.Ytfmhfngilimhjaa

namespace Go.Proofs.Ytfmhfngilimhjaa
open Go.RowKit Li

/-- The program's receiver lies at block b, and stands at r. -/
def rvR (r : R) : Array Value := #[.bool r.begun, .int .i64 r.newest, .int .i64 r.lost, .int .i64 r.peer, .int .i64 r.age, .int .i64 r.last]
def Rv (w : World) (b : Nat) (r : R) : Prop := Is w b 110 (rvR r)
theorem rv_cells {w : World} {b : Nat} {r : R} (h : Rv w b r) : w.cell? ⟨b, 0, none⟩ = some (.bool r.begun) ∧ w.cell? ⟨b, 1, none⟩ = some (.int .i64 r.newest) ∧ w.cell? ⟨b, 2, none⟩ = some (.int .i64 r.lost) ∧ w.cell? ⟨b, 3, none⟩ = some (.int .i64 r.peer) ∧ w.cell? ⟨b, 4, none⟩ = some (.int .i64 r.age) ∧ w.cell? ⟨b, 5, none⟩ = some (.int .i64 r.last) :=
  ⟨Is.cell h 0, Is.cell h 1, Is.cell h 2, Is.cell h 3, Is.cell h 4, Is.cell h 5⟩

theorem newrecv_any (peer age : Int) (w : World) :
    Calls Try.prog 70 #[.int .i64 peer, .int .i64 age] w fun e w' => e = .returned (.pointer (some ⟨w.heap.size, 0, none⟩)) ∧ Rv w' w.heap.size (R.new peer age) ∧ Fr (fun _ => False) w w' := by
  have i1 : Rv (w.alloc (.cells (rvR (R.new peer age)) 110)) w.heap.size (R.new peer age) := Is.new w _ _
  have f1 := (Fr.refl (fun _ => False) w).alloc (.cells (rvR (R.new peer age)) 110)
  go_enter Try.func70, Try.ntmps70
  go_wp2
  go_ret
  exact ⟨rfl, i1, f1⟩
theorem last_any {w : World} {b : Nat} {r : R} (h : Rv w b r) :
    Calls Try.prog 73 #[.pointer (some ⟨b, 0, none⟩)] w fun e w' => e = .returned (.int .i64 r.last) ∧ w' = w := by
  obtain ⟨c0, c1, c2, c3, c4, c5⟩ := rv_cells h
  go_enter Try.func73, Try.ntmps73
  go_wp2
  go_ret
  exact ⟨rfl, rfl⟩
theorem lostr_any {w : World} {b : Nat} {r : R} (h : Rv w b r) :
    Calls Try.prog 47 #[.pointer (some ⟨b, 0, none⟩)] w fun e w' => e = .returned (.int .i64 r.lost) ∧ w' = w := by
  obtain ⟨c0, c1, c2, c3, c4, c5⟩ := rv_cells h
  go_enter Try.func47, Try.ntmps47
  go_wp2
  go_ret
  exact ⟨rfl, rfl⟩
theorem refusal_any {w : World} {b : Nat} {r : R} (h : Rv w b r) (now peer stamp : Int) (hn : now ≤ 9223372036854775807) (hs : 0 ≤ stamp) :
    Calls Try.prog 92 #[.pointer (some ⟨b, 0, none⟩), .int .i64 now, .int .i64 peer, .int .i64 stamp] w fun e w' => e = .returned (.int .i64 (r.refuse now peer stamp)) ∧ w' = w := by
  obtain ⟨c0, c1, c2, c3, c4, c5⟩ := rv_cells h
  have HA : Hid (r.refuse now peer stamp = if peer ≠ r.peer then 16 else if now < stamp then 19 else if r.age < now - stamp then 17 else if stamp ≤ r.last then 18 else 0) := Lib.hid rfl
  generalize r.last = l at *
  generalize r.age = a at *
  generalize r.peer = q at *
  by_cases h0 : peer ≠ q
  · have hb : (peer != q) = true := by simpa using h0
    have HE : Hid (r.refuse now peer stamp = 16) := Lib.hid (by rw [HA.out, if_pos h0])
    clear HA h0
    go_enter Try.func92, Try.ntmps92
    go_wp2
    go_ret
    exact ⟨by rw [HE.out]; rfl, rfl⟩
  · have hb : (peer != q) = false := by simpa using h0
    by_cases h1 : now < stamp
    · have HE : Hid (r.refuse now peer stamp = 19) := Lib.hid (by rw [HA.out, if_neg h0, if_pos h1])
      clear HA h0
      go_enter Try.func92, Try.ntmps92
      go_wp2
      go_ret
      exact ⟨by rw [HE.out]; rfl, rfl⟩
    · have hw : wrap64 (now - stamp) = now - stamp := IntWalk.wrap64_in _ ⟨by omega, by omega⟩
      by_cases h2 : a < now - stamp
      · have HE : Hid (r.refuse now peer stamp = 17) := Lib.hid (by rw [HA.out, if_neg h0, if_neg h1, if_pos h2])
        clear HA h0
        go_enter Try.func92, Try.ntmps92
        go_wp2
        go_ret
        exact ⟨by rw [HE.out]; rfl, rfl⟩
      · by_cases h3 : stamp ≤ l
        · have HE : Hid (r.refuse now peer stamp = 18) := Lib.hid (by rw [HA.out, if_neg h0, if_neg h1, if_neg h2, if_pos h3])
          clear HA h0
          go_enter Try.func92, Try.ntmps92
          go_wp2
          go_ret
          exact ⟨by rw [HE.out]; rfl, rfl⟩
        · have HE : Hid (r.refuse now peer stamp = 0) := Lib.hid (by rw [HA.out, if_neg h0, if_neg h1, if_neg h2, if_neg h3])
          clear HA h0
          go_enter Try.func92, Try.ntmps92
          go_wp2
          go_ret
          exact ⟨by rw [HE.out]; rfl, rfl⟩

theorem lost_two (a b : Int) : Sq.lostL [a, b] = (Sq.lostStep (0, a) b).1 := rfl
theorem lostStep_bd (a b : Int) : 0 ≤ (Sq.lostStep (0, a) b).1 ∧ (Sq.lostStep (0, a) b).1 ≤ 32767 := by
  have h := Sq.gap_bd a b
  unfold Sq.lostStep
  simp only
  split <;> simp only <;> omega
set_option maxHeartbeats 2000000 in
theorem add_any {w : World} {b : Nat} {r : R} (h : Rv w b r) (n : Int) (hl0 : 0 ≤ r.lost) (hl : r.lost ≤ 4611686018427387904) :
    Calls Try.prog 93 #[.pointer (some ⟨b, 0, none⟩), .int .i64 n] w fun e w' => e = .returned (.tuple #[]) ∧ Rv w' b (r.add n) ∧ Fr (fun k => k = b) w w' := by
  obtain ⟨c0, c1, c2, c3, c4, c5⟩ := rv_cells h
  obtain ⟨bg, nw, ls, pe, ag, la⟩ := r
  simp only at c0 c1 c2 c3 c4 c5 hl0 hl
  cases bg with
  | false =>
    have z0 : w.frozen? ⟨b, 0, none⟩ = false := Is.frozen h 0
    have z1 : w.frozen? ⟨b, 1, none⟩ = false := Is.frozen h 1
    have i2 : Rv ((w.setCell ⟨b, 0, none⟩ (.bool true)).setCell ⟨b, 1, none⟩ (.int .i64 n)) b ((R.mk false nw ls pe ag la).add n) := by
      have := (Is.set h 0 (.bool true)).set 1 (.int .i64 n)
      simpa [rvR, Rv, R.add] using this
    have f2 := ((Fr.refl (fun k => k = b) w).setCell (p := ⟨b, 0, none⟩) (.inl rfl) (.bool true)).setCell (p := ⟨b, 1, none⟩) (.inl rfl) (.int .i64 n)
    have HI := Lib.hid i2
    have HF := Lib.hid f2
    clear i2 f2 h
    go_enter Try.func93, Try.ntmps93
    go_wp2_with fail
    refine bodyPost_ret (results_none rfl _ _ _) rfl ?_
    exact ⟨rfl, HI.out, HF.out⟩
  | true =>
    have hb := lostStep_bd nw n
    have z1 : w.frozen? ⟨b, 1, none⟩ = false := Is.frozen h 1
    have z2 : w.frozen? ⟨b, 2, none⟩ = false := Is.frozen h 2
    have r1 : Rd ((w.drew).alloc (.cells #[.int .i64 nw, .int .i64 n] 3)) (some ⟨w.heap.size, 0, none⟩) ([nw, n].map (Value.int .i64)) := two_rd w.drew (.int .i64 nw) (.int .i64 n) 3
    have KL := Sq.lost_any (c := 2) (l := [nw, n]) r1 (by simp) (by simp)
    rw [lost_two] at KL
    have KN := Sq.newer_any nw n
    have HG : Hid (0 < Sq.gapZ nw n → (Sq.lostStep (0, nw) n).2 = n) := Lib.hid fun h => by unfold Sq.lostStep; rw [if_pos h]
    have HG2 : Hid (Sq.gapZ nw n ≤ 0 → (Sq.lostStep (0, nw) n).2 = nw) := Lib.hid fun h => by unfold Sq.lostStep; rw [if_neg (by simp only; omega)]
    have HA : Hid ((R.mk true nw ls pe ag la).add n = ⟨true, (Sq.lostStep (0, nw) n).2, ls + (Sq.lostStep (0, nw) n).1, pe, ag, la⟩) := Lib.hid rfl
    have f1 := ((Fr.refl (fun _ => False) w).drew).alloc (.cells #[.int .i64 nw, .int .i64 n] 3)
    have i1 : Rv ((w.drew).alloc (.cells #[.int .i64 nw, .int .i64 n] 3)) b ⟨true, nw, ls, pe, ag, la⟩ := Is.alloc h _
    have HF1 := Lib.hid f1
    have HI1 := Lib.hid i1
    have hadd : IntKind.i64.wrap (ls + (Sq.lostStep (0, nw) n).1) = ls + (Sq.lostStep (0, nw) n).1 := IntWalk.i64_in _ (by omega)
    generalize (Sq.lostStep (0, nw) n).1 = k at *
    generalize (Sq.lostStep (0, nw) n).2 = m at *
    have HW := Lib.hid hadd
    clear hadd i1 f1 r1 hb h
    go_enter Try.func93, Try.ntmps93
    go_wp2_with fail
    have k2 : (w.drew).cell? ⟨b, 2, none⟩ = some (.int .i64 ls) := c2
    refine wp_region_held_drew (S := fun Wx => Wx.cell? ⟨b, 1, none⟩ = some (.int .i64 nw)) (by kernel_rfl) c1 (fun hHeld => ?_)
    refine wpAnyH_take (i := 0) (v := ?_) rfl (by kernel_rfl) (by kernel_rfl) (by kernel_rfl) (fun _ _ _ h => h) (Or.inl ⟨by rfl, ?_⟩) (by assumption) ?_
    rotate_left
    · intro Wx hSw
      go_simp
      try with_reducible rfl
    try simp only [Act.put]
    refine wpAnyH_take (i := 1) (v := ?_) rfl (by kernel_rfl) (by kernel_rfl) (by kernel_rfl) (fun _ _ _ h => h) (Or.inl ⟨by rfl, ?_⟩) (by assumption) ?_
    rotate_left
    · intro Wx hSw
      go_simp
      try with_reducible rfl
    try simp only [Act.put]
    refine wpAnyH_take (i := 2) (v := ?_) rfl (by kernel_rfl) (by kernel_rfl) (by kernel_rfl) (fun _ _ _ h => h) (Or.inl ⟨by rfl, ?_⟩) (by assumption) ?_
    rotate_left
    · intro Wx hSw
      go_simp
      try with_reducible rfl
    try simp only [Act.put]
    refine wpAnyH_take (i := 4) (v := ?_) rfl (by kernel_rfl) (by kernel_rfl) (by kernel_rfl) (fun _ _ _ h => h) (Or.inl ⟨by rfl, ?_⟩) (by assumption) ?_
    rotate_left
    · intro Wx hSw
      go_simp
      try with_reducible rfl
    try simp only [Act.put]
    refine wpAnyH_take (i := 5) (v := ?_) rfl (by kernel_rfl) (by kernel_rfl) (by kernel_rfl) (fun _ _ _ h => h) (Or.inl ⟨by rfl, ?_⟩) (by assumption) ?_
    rotate_left
    · intro Wx hSw
      go_simp
      try with_reducible rfl
    try simp only [Act.put]
    refine wpAnyH_take (i := 6) (v := ?_) rfl (by kernel_rfl) (by kernel_rfl) (by kernel_rfl) (fun _ _ _ h => h) (Or.inl ⟨by rfl, ?_⟩) (by assumption) ?_
    rotate_left
    · intro Wx hSw
      go_simp
      try with_reducible rfl
    try simp only [Act.put]
    refine wpAnyH_take (i := 7) (v := ?_) rfl (by kernel_rfl) (by kernel_rfl) (by kernel_rfl) (fun _ _ _ h => h) (Or.inl ⟨by rfl, ?_⟩) (by assumption) ?_
    rotate_left
    · intro Wx hSw
      have h1 := hSw
      go_simp
      try with_reducible rfl
    try simp only [Act.put]
    refine wpAnyH_take (i := 8) (v := ?_) rfl (by kernel_rfl) (by kernel_rfl) (by kernel_rfl) (fun _ _ _ h => h) (Or.inl ⟨by rfl, ?_⟩) (by assumption) ?_
    rotate_left
    · intro Wx hSw
      go_simp
      try with_reducible rfl
    try simp only [Act.put]
    refine wpAnyH_ready (rs := [3, 9]) (by kernel_rfl) (by simp) (AllReadyH.cons rfl (fun K hK => ?_) (AllReadyH.cons rfl (fun K hK => ?_) AllReadyH.nil))
    · go_simp
      refine hK.out _ _ hHeld (fun hHeld => ?_)
      clear hK K
      refine wpAnyH_ready (rs := [9]) (by kernel_rfl) (by simp) (AllReadyH.cons rfl (fun K hK => ?_) AllReadyH.nil)
      go_simp
      refine hK.out _ _ (rv_cells HI1.out).2.1 (fun hHeld => ?_)
      clear hK K
      have k2 : ((w.alloc (.cells #[.int .i64 nw, .int .i64 n] 3)).drew).cell? ⟨b, 2, none⟩ = some (.int .i64 ls) := (rv_cells HI1.out).2.2.1
      refine wpAnyH_ready (rs := [10]) (by kernel_rfl) (by simp) (AllReadyH.cons rfl (fun K hK => ?_) AllReadyH.nil)
      go_simp
      refine KL.mono ?_
      rintro e w2 ⟨rfl, n2, rfl⟩
      have i2 : Rv (((w.drew).alloc (.cells #[.int .i64 nw, .int .i64 n] 3)).drewN n2) b ⟨true, nw, ls, pe, ag, la⟩ := HI1.out
      have HF2 := Lib.hid (HF1.out.drewN n2)
      clear k2 hHeld
      generalize ((w.drew).alloc (.cells #[.int .i64 nw, .int .i64 n] 3)).drewN n2 = w2 at *
      have hHeld : w2.cell? ⟨b, 1, none⟩ = some (.int .i64 nw) := (rv_cells i2).2.1
      have k2 : w2.cell? ⟨b, 2, none⟩ = some (.int .i64 ls) := (rv_cells i2).2.2.1
      go_simp
      refine hK.out _ _ hHeld (fun hHeld => ?_)
      clear hK K
      have hadd := HW.out
      refine wpAnyH_take (i := 11) (v := ?_) rfl (by kernel_rfl) (by kernel_rfl) (by kernel_rfl) (fun _ _ _ h => h) (Or.inl ⟨by rfl, ?_⟩) (by assumption) ?_
      rotate_left
      · intro Wx hSw
        go_simp
        try with_reducible rfl
      try simp only [Act.put]
      clear hadd
      refine wpAnyH_take (i := 12) (v := ?_) rfl (by kernel_rfl) (by kernel_rfl) (by kernel_rfl) (fun _ _ _ h => h) (Or.inl ⟨by rfl, ?_⟩) (by assumption) ?_
      rotate_left
      · intro Wx hSw
        go_simp
        try with_reducible rfl
      try simp only [Act.put]
      refine wpAnyH_take (i := 13) (v := ?_) rfl (by kernel_rfl) (by kernel_rfl) (by kernel_rfl) (fun _ _ _ h => h) (Or.inl ⟨by rfl, ?_⟩) (by assumption) ?_
      rotate_left
      · intro Wx hSw
        go_simp
        try with_reducible rfl
      try simp only [Act.put]
      have y2 : w2.frozen? ⟨b, 2, none⟩ = false := Is.frozen i2 2
      have i3 : Rv (w2.setCell ⟨b, 2, none⟩ (.int .i64 (ls + k))) b ⟨true, nw, ls + k, pe, ag, la⟩ := by
        have := Is.set i2 2 (.int .i64 (ls + k))
        simpa [rvR, Rv] using this
      have HF3 := Lib.hid ((HF2.out.mono fun _ _ h => h.elim).setCell (S := fun k => k = b) (p := ⟨b, 2, none⟩) (.inl rfl) (.int .i64 (ls + k)))
      refine wpAnyH_ready (rs := [14]) (by kernel_rfl) (by simp) (AllReadyH.cons rfl (fun K hK => ?_) AllReadyH.nil)
      go_simp
      refine hK.out _ _ (rv_cells i3).2.1 (fun hHeld => ?_)
      clear hK K
      refine wpAnyH_done (by kernel_rfl) ?_ _
      clear k2 y2 hHeld i2
      generalize w2.setCell ⟨b, 2, none⟩ (.int .i64 (ls + k)) = w3 at *
      have e1 : w3.cell? ⟨b, 1, none⟩ = some (.int .i64 nw) := (rv_cells i3).2.1
      have y1 : w3.frozen? ⟨b, 1, none⟩ = false := Is.frozen i3 1
      by_cases hg : 0 < Sq.gapZ nw n
      · have HM := Lib.hid (HG.out hg)
        have dg : decide (0 < Sq.gapZ nw n) = true := decide_eq_true hg
        have i4 : Rv (w3.setCell ⟨b, 1, none⟩ (.int .i64 n)) b ⟨true, n, ls + k, pe, ag, la⟩ := by
          have := Is.set i3 1 (.int .i64 n)
          simpa [rvR, Rv] using this
        have HI4 := Lib.hid i4
        have HF4 := Lib.hid (HF3.out.setCell (p := ⟨b, 1, none⟩) (.inl rfl) (.int .i64 n))
        rw [dg] at KN
        clear HG HG2 hg dg i4
        go_wp2_with (go_at_call 109; refine (KN _).mono ?_; clear KN; rintro e w4 ⟨rfl, rfl⟩)
        go_end0
        refine ⟨rfl, ?_, HF4.out⟩
        rw [HA.out, HM.out]
        exact HI4.out
      · have HM := Lib.hid (HG2.out (by omega))
        have dg : decide (0 < Sq.gapZ nw n) = false := decide_eq_false hg
        rw [dg] at KN
        clear HG HG2 hg dg
        go_wp2_with (go_at_call 109; refine (KN _).mono ?_; clear KN; rintro e w4 ⟨rfl, rfl⟩)
        go_end0
        refine ⟨rfl, ?_, HF3.out⟩
        rw [HA.out, HM.out]
        exact i3
    · go_simp
      refine hK.out _ _ (rv_cells HI1.out).2.1 (fun hHeld => ?_)
      clear hK K
      have k2 : ((w.alloc (.cells #[.int .i64 nw, .int .i64 n] 3)).drew).cell? ⟨b, 2, none⟩ = some (.int .i64 ls) := (rv_cells HI1.out).2.2.1
      refine wpAnyH_ready (rs := [3, 10]) (by kernel_rfl) (by simp) (AllReadyH.cons rfl (fun K hK => ?_) (AllReadyH.cons rfl (fun K hK => ?_) AllReadyH.nil))
      · go_simp
        refine hK.out _ _ hHeld (fun hHeld => ?_)
        clear hK K
        refine wpAnyH_ready (rs := [10]) (by kernel_rfl) (by simp) (AllReadyH.cons rfl (fun K hK => ?_) AllReadyH.nil)
        go_simp
        refine KL.mono ?_
        rintro e w2 ⟨rfl, n2, rfl⟩
        have i2 : Rv (((w.drew).alloc (.cells #[.int .i64 nw, .int .i64 n] 3)).drewN n2) b ⟨true, nw, ls, pe, ag, la⟩ := HI1.out
        have HF2 := Lib.hid (HF1.out.drewN n2)
        clear k2 hHeld
        generalize ((w.drew).alloc (.cells #[.int .i64 nw, .int .i64 n] 3)).drewN n2 = w2 at *
        have hHeld : w2.cell? ⟨b, 1, none⟩ = some (.int .i64 nw) := (rv_cells i2).2.1
        have k2 : w2.cell? ⟨b, 2, none⟩ = some (.int .i64 ls) := (rv_cells i2).2.2.1
        go_simp
        refine hK.out _ _ hHeld (fun hHeld => ?_)
        clear hK K
        have hadd := HW.out
        refine wpAnyH_take (i := 11) (v := ?_) rfl (by kernel_rfl) (by kernel_rfl) (by kernel_rfl) (fun _ _ _ h => h) (Or.inl ⟨by rfl, ?_⟩) (by assumption) ?_
        rotate_left
        · intro Wx hSw
          go_simp
          try with_reducible rfl
        try simp only [Act.put]
        clear hadd
        refine wpAnyH_take (i := 12) (v := ?_) rfl (by kernel_rfl) (by kernel_rfl) (by kernel_rfl) (fun _ _ _ h => h) (Or.inl ⟨by rfl, ?_⟩) (by assumption) ?_
        rotate_left
        · intro Wx hSw
          go_simp
          try with_reducible rfl
        try simp only [Act.put]
        refine wpAnyH_take (i := 13) (v := ?_) rfl (by kernel_rfl) (by kernel_rfl) (by kernel_rfl) (fun _ _ _ h => h) (Or.inl ⟨by rfl, ?_⟩) (by assumption) ?_
        rotate_left
        · intro Wx hSw
          go_simp
          try with_reducible rfl
        try simp only [Act.put]
        have y2 : w2.frozen? ⟨b, 2, none⟩ = false := Is.frozen i2 2
        have i3 : Rv (w2.setCell ⟨b, 2, none⟩ (.int .i64 (ls + k))) b ⟨true, nw, ls + k, pe, ag, la⟩ := by
          have := Is.set i2 2 (.int .i64 (ls + k))
          simpa [rvR, Rv] using this
        have HF3 := Lib.hid ((HF2.out.mono fun _ _ h => h.elim).setCell (S := fun k => k = b) (p := ⟨b, 2, none⟩) (.inl rfl) (.int .i64 (ls + k)))
        refine wpAnyH_ready (rs := [14]) (by kernel_rfl) (by simp) (AllReadyH.cons rfl (fun K hK => ?_) AllReadyH.nil)
        go_simp
        refine hK.out _ _ (rv_cells i3).2.1 (fun hHeld => ?_)
        clear hK K
        refine wpAnyH_done (by kernel_rfl) ?_ _
        clear k2 y2 hHeld i2
        generalize w2.setCell ⟨b, 2, none⟩ (.int .i64 (ls + k)) = w3 at *
        have e1 : w3.cell? ⟨b, 1, none⟩ = some (.int .i64 nw) := (rv_cells i3).2.1
        have y1 : w3.frozen? ⟨b, 1, none⟩ = false := Is.frozen i3 1
        by_cases hg : 0 < Sq.gapZ nw n
        · have HM := Lib.hid (HG.out hg)
          have dg : decide (0 < Sq.gapZ nw n) = true := decide_eq_true hg
          have i4 : Rv (w3.setCell ⟨b, 1, none⟩ (.int .i64 n)) b ⟨true, n, ls + k, pe, ag, la⟩ := by
            have := Is.set i3 1 (.int .i64 n)
            simpa [rvR, Rv] using this
          have HI4 := Lib.hid i4
          have HF4 := Lib.hid (HF3.out.setCell (p := ⟨b, 1, none⟩) (.inl rfl) (.int .i64 n))
          rw [dg] at KN
          clear HG HG2 hg dg i4
          go_wp2_with (go_at_call 109; refine (KN _).mono ?_; clear KN; rintro e w4 ⟨rfl, rfl⟩)
          go_end0
          refine ⟨rfl, ?_, HF4.out⟩
          rw [HA.out, HM.out]
          exact HI4.out
        · have HM := Lib.hid (HG2.out (by omega))
          have dg : decide (0 < Sq.gapZ nw n) = false := decide_eq_false hg
          rw [dg] at KN
          clear HG HG2 hg dg
          go_wp2_with (go_at_call 109; refine (KN _).mono ?_; clear KN; rintro e w4 ⟨rfl, rfl⟩)
          go_end0
          refine ⟨rfl, ?_, HF3.out⟩
          rw [HA.out, HM.out]
          exact i3
      · go_simp
        refine KL.mono ?_
        rintro e w2 ⟨rfl, n2, rfl⟩
        have i2 : Rv (((w.drew).alloc (.cells #[.int .i64 nw, .int .i64 n] 3)).drewN n2) b ⟨true, nw, ls, pe, ag, la⟩ := HI1.out
        have HF2 := Lib.hid (HF1.out.drewN n2)
        clear k2 hHeld
        generalize ((w.drew).alloc (.cells #[.int .i64 nw, .int .i64 n] 3)).drewN n2 = w2 at *
        have hHeld : w2.cell? ⟨b, 1, none⟩ = some (.int .i64 nw) := (rv_cells i2).2.1
        have k2 : w2.cell? ⟨b, 2, none⟩ = some (.int .i64 ls) := (rv_cells i2).2.2.1
        go_simp
        refine hK.out _ _ hHeld (fun hHeld => ?_)
        clear hK K
        refine wpAnyH_ready (rs := [3]) (by kernel_rfl) (by simp) (AllReadyH.cons rfl (fun K hK => ?_) AllReadyH.nil)
        go_simp
        refine hK.out _ _ hHeld (fun hHeld => ?_)
        clear hK K
        have hadd := HW.out
        refine wpAnyH_take (i := 11) (v := ?_) rfl (by kernel_rfl) (by kernel_rfl) (by kernel_rfl) (fun _ _ _ h => h) (Or.inl ⟨by rfl, ?_⟩) (by assumption) ?_
        rotate_left
        · intro Wx hSw
          go_simp
          try with_reducible rfl
        try simp only [Act.put]
        clear hadd
        refine wpAnyH_take (i := 12) (v := ?_) rfl (by kernel_rfl) (by kernel_rfl) (by kernel_rfl) (fun _ _ _ h => h) (Or.inl ⟨by rfl, ?_⟩) (by assumption) ?_
        rotate_left
        · intro Wx hSw
          go_simp
          try with_reducible rfl
        try simp only [Act.put]
        refine wpAnyH_take (i := 13) (v := ?_) rfl (by kernel_rfl) (by kernel_rfl) (by kernel_rfl) (fun _ _ _ h => h) (Or.inl ⟨by rfl, ?_⟩) (by assumption) ?_
        rotate_left
        · intro Wx hSw
          go_simp
          try with_reducible rfl
        try simp only [Act.put]
        have y2 : w2.frozen? ⟨b, 2, none⟩ = false := Is.frozen i2 2
        have i3 : Rv (w2.setCell ⟨b, 2, none⟩ (.int .i64 (ls + k))) b ⟨true, nw, ls + k, pe, ag, la⟩ := by
          have := Is.set i2 2 (.int .i64 (ls + k))
          simpa [rvR, Rv] using this
        have HF3 := Lib.hid ((HF2.out.mono fun _ _ h => h.elim).setCell (S := fun k => k = b) (p := ⟨b, 2, none⟩) (.inl rfl) (.int .i64 (ls + k)))
        refine wpAnyH_ready (rs := [14]) (by kernel_rfl) (by simp) (AllReadyH.cons rfl (fun K hK => ?_) AllReadyH.nil)
        go_simp
        refine hK.out _ _ (rv_cells i3).2.1 (fun hHeld => ?_)
        clear hK K
        refine wpAnyH_done (by kernel_rfl) ?_ _
        clear k2 y2 hHeld i2
        generalize w2.setCell ⟨b, 2, none⟩ (.int .i64 (ls + k)) = w3 at *
        have e1 : w3.cell? ⟨b, 1, none⟩ = some (.int .i64 nw) := (rv_cells i3).2.1
        have y1 : w3.frozen? ⟨b, 1, none⟩ = false := Is.frozen i3 1
        by_cases hg : 0 < Sq.gapZ nw n
        · have HM := Lib.hid (HG.out hg)
          have dg : decide (0 < Sq.gapZ nw n) = true := decide_eq_true hg
          have i4 : Rv (w3.setCell ⟨b, 1, none⟩ (.int .i64 n)) b ⟨true, n, ls + k, pe, ag, la⟩ := by
            have := Is.set i3 1 (.int .i64 n)
            simpa [rvR, Rv] using this
          have HI4 := Lib.hid i4
          have HF4 := Lib.hid (HF3.out.setCell (p := ⟨b, 1, none⟩) (.inl rfl) (.int .i64 n))
          rw [dg] at KN
          clear HG HG2 hg dg i4
          go_wp2_with (go_at_call 109; refine (KN _).mono ?_; clear KN; rintro e w4 ⟨rfl, rfl⟩)
          go_end0
          refine ⟨rfl, ?_, HF4.out⟩
          rw [HA.out, HM.out]
          exact HI4.out
        · have HM := Lib.hid (HG2.out (by omega))
          have dg : decide (0 < Sq.gapZ nw n) = false := decide_eq_false hg
          rw [dg] at KN
          clear HG HG2 hg dg
          go_wp2_with (go_at_call 109; refine (KN _).mono ?_; clear KN; rintro e w4 ⟨rfl, rfl⟩)
          go_end0
          refine ⟨rfl, ?_, HF3.out⟩
          rw [HA.out, HM.out]
          exact i3
end Go.Proofs.Ytfmhfngilimhjaa

namespace Go.Proofs.Ytfmhfngilimhjaa
open Go.RowKit Li

theorem take_bad {r : R} {now : Int} {t : T} (h : t.e ≠ 0) : r.take now t = ([], t.e, r) := by unfold R.take; rw [if_pos h]
theorem take_no {r : R} {now : Int} {t : T} (h : t.e = 0) (k : r.refuse now t.p t.s ≠ 0) : r.take now t = ([], r.refuse now t.p t.s, r) := by unfold R.take; rw [if_neg (by omega), if_pos k]
theorem take_ok {r : R} {now : Int} {t : T} (h : t.e = 0) (k : r.refuse now t.p t.s = 0) : r.take now t = (t.x, 0, { r with last := t.s }.add t.n) := by unfold R.take; rw [if_neg (by omega), if_neg (by omega)]

set_option maxHeartbeats 1000000 in
theorem take_any {w : World} {b : Nat} {r : R} (h : Rv w b r) (now : Int) (s : ByteArray) (hn : now ≤ 9223372036854775807) (hl0 : 0 ≤ r.lost) (hl : r.lost ≤ 4611686018427387904) :
    Calls Try.prog 71 #[.pointer (some ⟨b, 0, none⟩), .int .i64 now, .string s] w fun e w' => e = .returned (.tuple #[.string ⟨(r.take now (readL (bytesOf s))).1.toArray⟩, .int .i64 (r.take now (readL (bytesOf s))).2.1]) ∧ Rv w' b (r.take now (readL (bytesOf s))).2.2 ∧ Fr (fun k => k = b) w w' := by
  have KR := read_any s w
  have hbd := read_bd (l := bytesOf s)
  generalize readL (bytesOf s) = t at *
  by_cases he : t.e = 0
  · have hs := (hbd he).2.2.2.2.1
    clear hbd
    by_cases hr : r.refuse now t.p t.s = 0
    · have HT := Lib.hid (take_ok he hr)
      have KF := fun (w1 : World) (f : Fr (fun _ => False) w w1) => refusal_any (h.fr f id) now t.p t.s hn hs
      rw [hr] at KF
      have HK := Lib.hid KF
      rw [he] at KR
      obtain ⟨p, n, st, x, e1⟩ := t
      simp only at KR
      have H0 := Lib.hid h
      clear KF hr he hs h
      go_enter Try.func71, Try.ntmps71
      go_wp2_with fail
      refine KR.mono ?_
      rintro e w1 ⟨rfl, f1⟩
      have K2 := HK.out w1 f1
      have i1 := H0.out.fr f1 id
      have HF1 := Lib.hid f1
      clear KR HK f1
      go_wp2_with fail
      refine K2.mono ?_
      rintro e w2 ⟨rfl, rfl⟩
      have z5 : w2.frozen? ⟨b, 5, none⟩ = false := Is.frozen i1 5
      have c5 : w2.cell? ⟨b, 5, none⟩ = some (.int .i64 r.last) := (rv_cells i1).2.2.2.2.2
      have i2 : Rv (w2.setCell ⟨b, 5, none⟩ (.int .i64 st)) b { r with last := st } := by
        have := Is.set i1 5 (.int .i64 st)
        simpa [rvR, Rv] using this
      have HF2 := Lib.hid ((HF1.out.mono fun _ _ h => h.elim).setCell (S := fun k => k = b) (p := ⟨b, 5, none⟩) (.inl rfl) (.int .i64 st))
      have KA := add_any i2 n hl0 hl
      clear K2 i1 HF1 i2
      go_wp2_with fail
      refine KA.mono ?_
      rintro e w3 ⟨rfl, i3, f3⟩
      have HI := Lib.hid i3
      have HF3 := Lib.hid (HF2.out.trans f3 fun _ _ h => h)
      clear KA i3 f3 HF2 z5 c5
      go_wp2_with fail
      go_ret2
      rw [HT.out]
      exact ⟨rfl, HI.out, HF3.out⟩
    · have HT := Lib.hid (take_no he hr)
      have KF := fun (w1 : World) (f : Fr (fun _ => False) w w1) => refusal_any (h.fr f id) now t.p t.s hn hs
      have hb : (r.refuse now t.p t.s != 0) = true := by simpa using hr
      generalize r.refuse now t.p t.s = q at *
      have HK := Lib.hid KF
      rw [he] at KR
      obtain ⟨p, n, st, x, e1⟩ := t
      simp only at KR
      have H0 := Lib.hid h
      clear KF hr he hs h
      go_enter Try.func71, Try.ntmps71
      go_wp2_with fail
      refine KR.mono ?_
      rintro e w1 ⟨rfl, f1⟩
      have K2 := HK.out w1 f1
      have HF1 := Lib.hid f1
      clear KR HK f1
      go_wp2_with fail
      refine K2.mono ?_
      rintro e w2 ⟨rfl, rfl⟩
      clear K2
      go_wp2_with fail
      go_ret2
      rw [HT.out]
      exact ⟨rfl, H0.out.fr HF1.out id, HF1.out.mono fun _ _ h => h.elim⟩
  · have HT := Lib.hid (take_bad (r := r) (now := now) he)
    have hb : (t.e != 0) = true := by simpa using he
    have hb2 : (t.e == 0) = false := by simpa using he
    obtain ⟨p, n, st, x, e1⟩ := t
    simp only at KR hb hb2
    have H0 := Lib.hid h
    clear he h hbd
    go_enter Try.func71, Try.ntmps71
    go_wp2_with fail
    refine KR.mono ?_
    rintro e w1 ⟨rfl, f1⟩
    have HF1 := Lib.hid f1
    clear KR f1
    go_wp2_with fail
    go_ret2
    rw [HT.out]
    exact ⟨rfl, H0.out.fr HF1.out id, HF1.out.mono fun _ _ h => h.elim⟩

/-- what a sender that used a number last has used behind a telegram -/
def useZ (used peer now : Int) (x : List UInt8) : Int := if (makeL peer (Sq.ofZ (used + 1)) now x).2 = 0 then Sq.ofZ (used + 1) else used
end Go.Proofs.Ytfmhfngilimhjaa


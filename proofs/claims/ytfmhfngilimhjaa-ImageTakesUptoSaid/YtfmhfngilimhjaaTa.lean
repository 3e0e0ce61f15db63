/- Contracts and plain mathematics of earlier stages: Telem, Telb, Tfits, Tright, Tparts. -/
import Derived.Test.YtfmhfngilimhjaaKa
import Derived.Test.YtfmhfngilimhjaaKr
namespace Go.Proofs.Ytfmhfngilimhjaa.Te

/-- so many numbers, each 0 to m -/
def okL (l : List Int) (n : Nat) (m : Int) : Bool := decide (l.length = n) && l.all fun x => decide (0 ≤ x) && decide (x ≤ m)
def byL (l : List Int) : List UInt8 := l.map fun x => UInt8.ofNat x.toNat
def inL (t : List UInt8) : List Int := t.map fun b => (b.toNat : Int)
theorem byL_length (l : List Int) : (byL l).length = l.length := by simp [byL]
theorem inL_length (t : List UInt8) : (inL t).length = t.length := by simp [inL]
theorem okL_iff {l : List Int} {n : Nat} {m : Int} : okL l n m = true ↔ l.length = n ∧ ∀ x ∈ l, 0 ≤ x ∧ x ≤ m := by
  unfold okL
  simp only [Bool.and_eq_true, decide_eq_true_eq, List.all_eq_true]
theorem inL_byL : ∀ {l : List Int}, (∀ x ∈ l, 0 ≤ x ∧ x ≤ 255) → inL (byL l) = l
  | [], _ => rfl
  | x :: l, h => by
    have hx := h x List.mem_cons_self
    show ((UInt8.ofNat x.toNat).toNat : Int) :: inL (byL l) = x :: l
    rw [inL_byL fun y hy => h y (List.mem_cons_of_mem _ hy)]
    congr 1
    rw [UInt8.toNat_ofNat']
    omega
theorem byL_inL : ∀ t : List UInt8, byL (inL t) = t
  | [] => rfl
  | b :: t => by
    show UInt8.ofNat ((b.toNat : Int)).toNat :: byL (inL t) = b :: t
    rw [byL_inL t]
    congr 1
    rw [Int.toNat_natCast, UInt8.ofNat_toNat]
theorem byL_append (l k : List Int) : byL (l ++ k) = byL l ++ byL k := by simp [byL]
/-- n bytes of a text from a place on, or as many as there are -/
def cutL (t : List UInt8) (a n : Nat) : List Int := inL ((t.drop a).take n)
theorem cutL_length (t : List UInt8) (a n : Nat) : (cutL t a n).length = min n (t.length - a) := by
  unfold cutL
  rw [inL_length, List.length_take, List.length_drop]
theorem cutL_here {x y : List UInt8} {l : List Int} {a n : Nat} (ha : x.length = a) (hn : l.length = n) (h : ∀ v ∈ l, 0 ≤ v ∧ v ≤ 255) : cutL (x ++ (byL l ++ y)) a n = l := by
  unfold cutL
  rw [List.drop_left' ha, List.take_left' (by rw [byL_length]; exact hn), inL_byL h]

/-- how many sections, points, crossings, signals a shape has -/
structure Hs where
  s : Nat
  p : Nat
  c : Nat
  g : Nat
structure St where
  occ : List Int
  pos : List Int
  shut : List Int
  lamp : List Int
structure Or where
  pos : List Int
  asp : List Int
  shut : List Int
def St.nil : St := ⟨[], [], [], []⟩
def Or.nil : Or := ⟨[], [], []⟩
def St.ok (h : Hs) (x : St) : Bool := okL x.occ h.s 1 && (okL x.pos h.p 2 && (okL x.shut h.c 1 && okL x.lamp h.g 1))
def Or.ok (h : Hs) (x : Or) : Bool := okL x.pos h.p 2 && (okL x.asp h.g 2 && okL x.shut h.c 1)
def St.bytes (x : St) : List UInt8 := 1 :: (byL x.occ ++ (byL x.pos ++ (byL x.shut ++ byL x.lamp)))
def Or.bytes (x : Or) : List UInt8 := 2 :: (byL x.pos ++ (byL x.asp ++ byL x.shut))
/-- the payload, and the error -/
def stL (h : Hs) (x : St) : List UInt8 × Int := if x.ok h = true then (x.bytes, 0) else ([], 32)
def orL (h : Hs) (x : Or) : List UInt8 × Int := if x.ok h = true then (x.bytes, 0) else ([], 32)
def St.cut (h : Hs) (t : List UInt8) : St := ⟨cutL t 1 h.s, cutL t (1 + h.s) h.p, cutL t (1 + h.s + h.p) h.c, cutL t (1 + h.s + h.p + h.c) h.g⟩
def Or.cut (h : Hs) (t : List UInt8) : Or := ⟨cutL t 1 h.p, cutL t (1 + h.p) h.g, cutL t (1 + h.p + h.g) h.c⟩
/-- what a payload says, and the error -/
def rstL (h : Hs) (t : List UInt8) : St × Int := if stL h (St.cut h t) = (t, 0) then (St.cut h t, 0) else (St.nil, 3)
def rorL (h : Hs) (t : List UInt8) : Or × Int := if orL h (Or.cut h t) = (t, 0) then (Or.cut h t, 0) else (Or.nil, 3)

theorem St.ok_iff {h : Hs} {x : St} : x.ok h = true ↔ okL x.occ h.s 1 = true ∧ okL x.pos h.p 2 = true ∧ okL x.shut h.c 1 = true ∧ okL x.lamp h.g 1 = true := by
  unfold St.ok
  simp only [Bool.and_eq_true]
theorem Or.ok_iff {h : Hs} {x : Or} : x.ok h = true ↔ okL x.pos h.p 2 = true ∧ okL x.asp h.g 2 = true ∧ okL x.shut h.c 1 = true := by
  unfold Or.ok
  simp only [Bool.and_eq_true]
theorem St.bytes_length (x : St) : x.bytes.length = 1 + x.occ.length + x.pos.length + x.shut.length + x.lamp.length := by
  unfold St.bytes
  simp only [List.length_cons, List.length_append, byL_length]
  omega
theorem Or.bytes_length (x : Or) : x.bytes.length = 1 + x.pos.length + x.asp.length + x.shut.length := by
  unfold Or.bytes
  simp only [List.length_cons, List.length_append, byL_length]
  omega
theorem small {l : List Int} {n : Nat} {m : Int} (h : okL l n m = true) (hm : m ≤ 255) : ∀ x ∈ l, 0 ≤ x ∧ x ≤ 255 := fun x hx => by
  have := (okL_iff.1 h).2 x hx
  omega
/-- a right status is read as it is -/
theorem St.cut_bytes {h : Hs} {x : St} (hx : x.ok h = true) : St.cut h x.bytes = x := by
  obtain ⟨h1, h2, h3, h4⟩ := St.ok_iff.1 hx
  obtain ⟨n1, _⟩ := okL_iff.1 h1
  obtain ⟨n2, _⟩ := okL_iff.1 h2
  obtain ⟨n3, _⟩ := okL_iff.1 h3
  obtain ⟨n4, _⟩ := okL_iff.1 h4
  have e1 : cutL x.bytes 1 h.s = x.occ := cutL_here (x := [1]) rfl n1 (small h1 (by decide))
  have e2 : cutL x.bytes (1 + h.s) h.p = x.pos := by
    have := cutL_here (x := [1] ++ byL x.occ) (y := byL x.shut ++ byL x.lamp) (l := x.pos) (a := 1 + h.s) (n := h.p) (by simp [byL_length]; omega) n2 (small h2 (by decide))
    simpa [St.bytes, List.append_assoc] using this
  have e3 : cutL x.bytes (1 + h.s + h.p) h.c = x.shut := by
    have := cutL_here (x := [1] ++ byL x.occ ++ byL x.pos) (y := byL x.lamp) (l := x.shut) (a := 1 + h.s + h.p) (n := h.c) (by simp [byL_length]; omega) n3 (small h3 (by decide))
    simpa [St.bytes, List.append_assoc] using this
  have e4 : cutL x.bytes (1 + h.s + h.p + h.c) h.g = x.lamp := by
    have := cutL_here (x := [1] ++ byL x.occ ++ byL x.pos ++ byL x.shut) (y := []) (l := x.lamp) (a := 1 + h.s + h.p + h.c) (n := h.g) (by simp [byL_length]; omega) n4 (small h4 (by decide))
    simpa [St.bytes, List.append_assoc] using this
  unfold St.cut
  rw [e1, e2, e3, e4]
theorem rst_st {h : Hs} {x : St} (hx : x.ok h = true) : rstL h x.bytes = (x, 0) := by
  unfold rstL
  rw [St.cut_bytes hx]
  unfold stL
  rw [if_pos hx, if_pos rfl]
theorem st_rst {h : Hs} {t : List UInt8} (ht : (rstL h t).2 = 0) : stL h (rstL h t).1 = (t, 0) := by
  unfold rstL at *
  by_cases hc : stL h (St.cut h t) = (t, 0)
  · rw [if_pos hc]; exact hc
  · rw [if_neg hc] at ht; cases ht
theorem st_ok {h : Hs} {x : St} {t : List UInt8} (hx : stL h x = (t, 0)) : x.ok h = true ∧ t = x.bytes := by
  unfold stL at hx
  by_cases ho : x.ok h = true
  · rw [if_pos ho] at hx
    injection hx with e
    exact ⟨ho, e.symm⟩
  · rw [if_neg ho] at hx
    injection hx with _ e
    cases e
theorem Or.cut_bytes {h : Hs} {x : Or} (hx : x.ok h = true) : Or.cut h x.bytes = x := by
  obtain ⟨h1, h2, h3⟩ := Or.ok_iff.1 hx
  obtain ⟨n1, _⟩ := okL_iff.1 h1
  obtain ⟨n2, _⟩ := okL_iff.1 h2
  obtain ⟨n3, _⟩ := okL_iff.1 h3
  have e1 : cutL x.bytes 1 h.p = x.pos := cutL_here (x := [2]) rfl n1 (small h1 (by decide))
  have e2 : cutL x.bytes (1 + h.p) h.g = x.asp := by
    have := cutL_here (x := [2] ++ byL x.pos) (y := byL x.shut) (l := x.asp) (a := 1 + h.p) (n := h.g) (by simp [byL_length]; omega) n2 (small h2 (by decide))
    simpa [Or.bytes, List.append_assoc] using this
  have e3 : cutL x.bytes (1 + h.p + h.g) h.c = x.shut := by
    have := cutL_here (x := [2] ++ byL x.pos ++ byL x.asp) (y := []) (l := x.shut) (a := 1 + h.p + h.g) (n := h.c) (by simp [byL_length]; omega) n3 (small h3 (by decide))
    simpa [Or.bytes, List.append_assoc] using this
  unfold Or.cut
  rw [e1, e2, e3]
theorem ror_or {h : Hs} {x : Or} (hx : x.ok h = true) : rorL h x.bytes = (x, 0) := by
  unfold rorL
  rw [Or.cut_bytes hx]
  unfold orL
  rw [if_pos hx, if_pos rfl]
theorem or_ror {h : Hs} {t : List UInt8} (ht : (rorL h t).2 = 0) : orL h (rorL h t).1 = (t, 0) := by
  unfold rorL at *
  by_cases hc : orL h (Or.cut h t) = (t, 0)
  · rw [if_pos hc]; exact hc
  · rw [if_neg hc] at ht; cases ht
theorem or_ok {h : Hs} {x : Or} {t : List UInt8} (hx : orL h x = (t, 0)) : x.ok h = true ∧ t = x.bytes := by
  unfold orL at hx
  by_cases ho : x.ok h = true
  · rw [if_pos ho] at hx
    injection hx with e
    exact ⟨ho, e.symm⟩
  · rw [if_neg ho] at hx
    injection hx with _ e
    cases e
/-- what is read has the first byte of its kind, and the length of its shape -/
theorem rst_head {h : Hs} {t : List UInt8} (ht : (rstL h t).2 = 0) : t.head? = some 1 ∧ t.length = 1 + h.s + h.p + h.c + h.g := by
  obtain ⟨h1, h2⟩ := st_ok (st_rst ht)
  obtain ⟨k1, k2, k3, k4⟩ := St.ok_iff.1 h1
  have n1 := (okL_iff.1 k1).1
  have n2 := (okL_iff.1 k2).1
  have n3 := (okL_iff.1 k3).1
  have n4 := (okL_iff.1 k4).1
  generalize (rstL h t).1 = x at *
  subst h2
  exact ⟨rfl, by rw [St.bytes_length]; omega⟩
theorem ror_head {h : Hs} {t : List UInt8} (ht : (rorL h t).2 = 0) : t.head? = some 2 ∧ t.length = 1 + h.p + h.g + h.c := by
  obtain ⟨h1, h2⟩ := or_ok (or_ror ht)
  obtain ⟨k1, k2, k3⟩ := Or.ok_iff.1 h1
  have n1 := (okL_iff.1 k1).1
  have n2 := (okL_iff.1 k2).1
  have n3 := (okL_iff.1 k3).1
  generalize (rorL h t).1 = x at *
  subst h2
  exact ⟨rfl, by rw [Or.bytes_length]; omega⟩
/-- a status' payload is none of another shape's size -/
theorem st_cross {h h' : Hs} {x : St} (hx : x.ok h = true) (hn : h.s + h.p + h.c + h.g ≠ h'.s + h'.p + h'.c + h'.g) : (rstL h' x.bytes).2 ≠ 0 := by
  intro e
  have h1 := (rst_head e).2
  have h2 := (rst_head (h := h) (t := x.bytes) (by rw [rst_st hx])).2
  omega

/-! the sections, and others, of a controller -/
/-- the places of a list at which a test holds, rising, from n on -/
def idx {α : Type} (f : α → Bool) : Nat → List α → List Int
  | _, [] => []
  | n, x :: l => if f x = true then (n : Int) :: idx f (n + 1) l else idx f (n + 1) l
theorem idx_snoc {α : Type} (f : α → Bool) : ∀ (l : List α) (n : Nat) (x : α), idx f n (l ++ [x]) = idx f n l ++ (if f x = true then [((n + l.length : Nat) : Int)] else [])
  | [], n, x => by
    show (if f x = true then [(n : Int)] else []) = _
    simp [idx]
  | y :: l, n, x => by
    show (if f y = true then (n : Int) :: idx f (n + 1) (l ++ [x]) else idx f (n + 1) (l ++ [x])) = (if f y = true then (n : Int) :: idx f (n + 1) l else idx f (n + 1) l) ++ _
    rw [idx_snoc f l (n + 1) x, show n + 1 + l.length = n + (y :: l).length by simp; omega]
    split <;> simp
theorem idx_len {α : Type} (f : α → Bool) : ∀ (l : List α) (n : Nat), (idx f n l).length = (l.filter f).length
  | [], _ => rfl
  | x :: l, n => by
    show (if f x = true then (n : Int) :: idx f (n + 1) l else idx f (n + 1) l).length = _
    rw [List.filter_cons]
    split
    · rw [List.length_cons, List.length_cons, idx_len f l]
    · exact idx_len f l _
theorem idx_le {α : Type} (f : α → Bool) (l : List α) (n : Nat) : (idx f n l).length ≤ l.length := by
  rw [idx_len]
  exact List.length_filter_le _ _
/-- what is told of each of the controllers 0 to 3 is told once of those that any of them has -/
theorem four {α : Type} (o : α → Int) (f : α → Bool) : ∀ l : List α, (l.filter fun x => decide (o x = 0) && f x).length + (l.filter fun x => decide (o x = 1) && f x).length + (l.filter fun x => decide (o x = 2) && f x).length + (l.filter fun x => decide (o x = 3) && f x).length = (l.filter fun x => (decide (0 ≤ o x) && decide (o x < 4)) && f x).length
  | [] => rfl
  | x :: l => by
    have ih := four o f l
    simp only [List.filter_cons]
    cases hf : f x
    · simp only [Bool.and_false]
      simpa using ih
    · simp only [Bool.and_true, decide_eq_true_eq, Bool.and_eq_true]
      by_cases h0 : o x = 0
      · rw [if_pos h0, if_neg (by omega), if_neg (by omega), if_neg (by omega), if_pos (by omega)]
        simp only [List.length_cons]
        omega
      · by_cases h1 : o x = 1
        · rw [if_neg h0, if_pos h1, if_neg (by omega), if_neg (by omega), if_pos (by omega)]
          simp only [List.length_cons]
          omega
        · by_cases h2 : o x = 2
          · rw [if_neg h0, if_neg h1, if_pos h2, if_neg (by omega), if_pos (by omega)]
            simp only [List.length_cons]
            omega
          · by_cases h3 : o x = 3
            · rw [if_neg h0, if_neg h1, if_neg h2, if_pos h3, if_pos (by omega)]
              simp only [List.length_cons]
              omega
            · rw [if_neg h0, if_neg h1, if_neg h2, if_neg h3, if_neg (by omega)]
              exact ih
end Go.Proofs.Ytfmhfngilimhjaa.Te

namespace Go.Proofs.Ytfmhfngilimhjaa.Te
open Go.RowKit

def blOk (a d g : Int) : Bool := Pk.fits 4 a && (Pk.fits 4 d && Pk.fits 4 g)
def blB (a d g : Int) : List UInt8 := Pk.digits 1 3 ++ (Pk.digits 4 a ++ (Pk.digits 4 d ++ Pk.digits 4 g))
/-- the payload of a block, and the error -/
def blL (a d g : Int) : List UInt8 × Int := if blOk a d g = true then (blB a d g, 0) else ([], 32)
structure Bl where
  a : Int
  d : Int
  g : Int
/-- what a payload says, and the error -/
def rblL (t : List UInt8) : Bl × Int := if t.length = 13 ∧ Pa.val (t.take 1) = 3 then (⟨Pa.val ((t.drop 1).take 4), Pa.val ((t.drop 5).take 4), Pa.val ((t.drop 9).take 4)⟩, 0) else (⟨0, 0, 0⟩, 3)
theorem blOk_iff {a d g : Int} : blOk a d g = true ↔ Pk.fits 4 a = true ∧ Pk.fits 4 d = true ∧ Pk.fits 4 g = true := by
  unfold blOk
  simp only [Bool.and_eq_true]
theorem byte_of (b : UInt8) (m : Int) (h : m = (b.toNat : Int)) (width : Nat) (n : Int) (i : Nat) (hm : n / 2 ^ (8 * (width - 1 - i)) % 256 = m) : Pk.dig width n i = b := by
  apply UInt8.toNat_inj.1
  have := Pa.dig_toNat width n i
  omega
theorem digits4 (l : List UInt8) (hl : l.length = 4) : Pk.digits 4 (Pa.val l) = l ∧ Pk.fits 4 (Pa.val l) = true := by
  constructor
  · match l, hl with
    | [a, b, c, d], _ =>
      have ha := UInt8.toNat_lt a
      have hb := UInt8.toNat_lt b
      have hc := UInt8.toNat_lt c
      have hd := UInt8.toNat_lt d
      have e : Pa.val [a, b, c, d] = (((a.toNat : Int) * 256 + (b.toNat : Int)) * 256 + (c.toNat : Int)) * 256 + (d.toNat : Int) := by simp [Pa.val]
      rw [e]
      show [Pk.dig 4 _ 0, Pk.dig 4 _ 1, Pk.dig 4 _ 2, Pk.dig 4 _ 3] = _
      rw [byte_of a _ rfl 4 _ 0 (by simp; omega), byte_of b _ rfl 4 _ 1 (by simp; omega), byte_of c _ rfl 4 _ 2 (by simp; omega), byte_of d _ rfl 4 _ 3 (by simp; omega)]
  · have hb := Pa.val_take_bd l 4 (by omega)
    rw [List.take_of_length_le (by omega)] at hb
    exact Pa.fits_of hb.1 (by have : (256 : Int) ^ 4 = 2 ^ (8 * 4) := rfl; omega)
theorem blB_length (a d g : Int) : (blB a d g).length = 13 := by simp [blB, Pk.digits_length]
theorem three : Pk.digits 1 3 = [3] := rfl
theorem rbl_bl {a d g : Int} (h : blOk a d g = true) : rblL (blB a d g) = (⟨a, d, g⟩, 0) := by
  obtain ⟨h1, h2, h3⟩ := blOk_iff.1 h
  have la := Pk.digits_length 4 a
  have ld := Pk.digits_length 4 d
  have lg := Pk.digits_length 4 g
  have e0 : (blB a d g).take 1 = [3] := by unfold blB; rw [three]; rfl
  have e1 : (blB a d g).drop 1 = Pk.digits 4 a ++ (Pk.digits 4 d ++ Pk.digits 4 g) := by unfold blB; rw [three]; rfl
  have e5 : (blB a d g).drop 5 = Pk.digits 4 d ++ Pk.digits 4 g := by
    rw [show 5 = 1 + 4 from rfl, ← List.drop_drop, e1, List.drop_left' la]
  have e9 : (blB a d g).drop 9 = Pk.digits 4 g := by
    rw [show 9 = 5 + 4 from rfl, ← List.drop_drop, e5, List.drop_left' ld]
  unfold rblL
  rw [blB_length, e0, e1, e5, e9, List.take_left' la, List.take_left' ld, List.take_of_length_le (by omega), if_pos ⟨rfl, rfl⟩, Pa.val_digits (.inr (.inr rfl)) h1, Pa.val_digits (.inr (.inr rfl)) h2, Pa.val_digits (.inr (.inr rfl)) h3]
theorem bl_rbl {t : List UInt8} (h : (rblL t).2 = 0) : blL (rblL t).1.a (rblL t).1.d (rblL t).1.g = (t, 0) := by
  unfold rblL at *
  by_cases hc : t.length = 13 ∧ Pa.val (t.take 1) = 3
  · rw [if_pos hc]
    obtain ⟨hl, hv⟩ := hc
    have l1 : ((t.drop 1).take 4).length = 4 := by rw [List.length_take, List.length_drop]; omega
    have l5 : ((t.drop 5).take 4).length = 4 := by rw [List.length_take, List.length_drop]; omega
    have l9 : ((t.drop 9).take 4).length = 4 := by rw [List.length_take, List.length_drop]; omega
    obtain ⟨d1, f1⟩ := digits4 _ l1
    obtain ⟨d5, f5⟩ := digits4 _ l5
    obtain ⟨d9, f9⟩ := digits4 _ l9
    have hb : t.take 1 = [3] := by
      have l0 : (t.take 1).length = 1 := by rw [List.length_take]; omega
      match hq : t.take 1, l0 with
      | [b], _ =>
        rw [hq] at hv
        have e : Pa.val [b] = (b.toNat : Int) := by simp [Pa.val]
        rw [e] at hv
        have : b = 3 := UInt8.toNat_inj.1 (by show b.toNat = 3; omega)
        rw [this]
    unfold blL
    simp only
    rw [if_pos (blOk_iff.2 ⟨f1, f5, f9⟩)]
    unfold blB
    rw [d1, d5, d9, three, ← hb]
    have k1 := List.take_append_drop 1 t
    have k2 := List.take_append_drop 4 (t.drop 1)
    have k3 := List.take_append_drop 4 (t.drop 5)
    rw [List.drop_drop] at k2 k3
    have k4 : (t.drop 9).take 4 = t.drop 9 := List.take_of_length_le (by rw [List.length_drop]; omega)
    rw [k4, k3, k2, k1]
  · rw [if_neg hc] at h; cases h
theorem rbl_head {t : List UInt8} (h : (rblL t).2 = 0) : t.head? = some 3 ∧ t.length = 13 := by
  have k := bl_rbl h
  unfold blL at k
  split at k
  · injection k with k
    rw [← k]
    exact ⟨by unfold blB; rw [three]; rfl, blB_length _ _ _⟩
  · injection k with _ k
    cases k
/-- the writer's way -/
theorem nums_bl (a d g : Int) : (((((⟨13, [], 0⟩ : Pk.S).num 1 3).num 4 a).num 4 d).num 4 g).done = blL a d g := by
  have la := Pk.digits_length 4 a
  have ld := Pk.digits_length 4 d
  have lg := Pk.digits_length 4 g
  have e1 : (⟨13, [], 0⟩ : Pk.S).num 1 3 = ⟨13, Pk.digits 1 3, 0⟩ := by
    unfold Pk.S.num Pk.S.put
    rw [if_pos (show Pk.fits 1 3 = true from rfl), if_pos rfl, if_pos (by rw [three]; decide)]
    rfl
  rw [e1, three]
  unfold blL blOk
  by_cases h1 : Pk.fits 4 a = true
  · have e2 : (⟨13, [3], 0⟩ : Pk.S).num 4 a = ⟨13, [3] ++ Pk.digits 4 a, 0⟩ := by
      unfold Pk.S.num Pk.S.put
      rw [if_pos h1, if_pos rfl, if_pos (by simp only [la, List.length_cons, List.length_nil]; decide)]
    rw [e2]
    by_cases h2 : Pk.fits 4 d = true
    · have e3 : (⟨13, [3] ++ Pk.digits 4 a, 0⟩ : Pk.S).num 4 d = ⟨13, [3] ++ Pk.digits 4 a ++ Pk.digits 4 d, 0⟩ := by
        unfold Pk.S.num Pk.S.put
        rw [if_pos h2, if_pos rfl, if_pos (by simp only [List.length_append, la, ld, List.length_cons, List.length_nil]; decide)]
      rw [e3]
      by_cases h3 : Pk.fits 4 g = true
      · have e4 : (⟨13, [3] ++ Pk.digits 4 a ++ Pk.digits 4 d, 0⟩ : Pk.S).num 4 g = ⟨13, [3] ++ Pk.digits 4 a ++ Pk.digits 4 d ++ Pk.digits 4 g, 0⟩ := by
          unfold Pk.S.num Pk.S.put
          rw [if_pos h3, if_pos rfl, if_pos (by simp only [List.length_append, la, ld, lg, List.length_cons, List.length_nil]; decide)]
        rw [e4, h1, h2, h3]
        show ([3] ++ Pk.digits 4 a ++ Pk.digits 4 d ++ Pk.digits 4 g, (0 : Int)) = (blB a d g, 0)
        unfold blB
        rw [three, List.append_assoc, List.append_assoc]
      · have e4 : (⟨13, [3] ++ Pk.digits 4 a ++ Pk.digits 4 d, 0⟩ : Pk.S).num 4 g = ⟨13, [3] ++ Pk.digits 4 a ++ Pk.digits 4 d, 32⟩ := by
          unfold Pk.S.num Pk.S.fail
          rw [if_neg h3, if_pos rfl]
        rw [e4, if_neg (by simp [h3])]
        rfl
    · have e3 : (⟨13, [3] ++ Pk.digits 4 a, 0⟩ : Pk.S).num 4 d = ⟨13, [3] ++ Pk.digits 4 a, 32⟩ := by
        unfold Pk.S.num Pk.S.fail
        rw [if_neg h2, if_pos rfl]
      rw [e3, Pk.S.num_bad (s := ⟨13, [3] ++ Pk.digits 4 a, 32⟩) (show (32 : Int) ≠ 0 by decide) 4 g, if_neg (by simp [h2])]
      rfl
  · have e2 : (⟨13, [3], 0⟩ : Pk.S).num 4 a = ⟨13, [3], 32⟩ := by
      unfold Pk.S.num Pk.S.fail
      rw [if_neg h1, if_pos rfl]
    rw [e2, Pk.S.num_bad (s := ⟨13, [3], 32⟩) (show (32 : Int) ≠ 0 by decide) 4 d, Pk.S.num_bad (s := ⟨13, [3], 32⟩) (show (32 : Int) ≠ 0 by decide) 4 g, if_neg (by simp [h1])]
    rfl
/-- the reader's way: four readings of a text, and what is left -/
theorem reads_bl (s : ByteArray) (hs : s.size = 13) :
    let r0 : Pa.Rs := ⟨s, false⟩
    bytesOf (r0.tk 1) = (bytesOf s).take 1 ∧ bytesOf ((r0.aft 1).tk 4) = ((bytesOf s).drop 1).take 4 ∧ bytesOf (((r0.aft 1).aft 4).tk 4) = ((bytesOf s).drop 5).take 4 ∧ bytesOf ((((r0.aft 1).aft 4).aft 4).tk 4) = ((bytesOf s).drop 9).take 4 ∧ ((((r0.aft 1).aft 4).aft 4).aft 4).bad = false ∧ bytesOf ((((r0.aft 1).aft 4).aft 4).aft 4).s = [] := by
  intro r0
  have hl : (bytesOf s).length = 13 := by rw [bytesOf_length, hs]
  have tk : ∀ (r : Pa.Rs) (n : Nat), r.bad = false → n ≤ (bytesOf r.s).length → bytesOf (r.tk n) = (bytesOf r.s).take n ∧ bytesOf (r.aft n).s = (bytesOf r.s).drop n ∧ (r.aft n).bad = false := fun r n hb hn => by
    have h := Pa.Rs.read_tk (l := (bytesOf r.s).take n) (k := (bytesOf r.s).drop n) hb (List.take_append_drop n _).symm
    rwa [List.length_take, Nat.min_eq_left hn] at h
  obtain ⟨a1, b1, c1⟩ := tk r0 1 rfl (by show 1 ≤ (bytesOf s).length; omega)
  have b1' : bytesOf (r0.aft 1).s = (bytesOf s).drop 1 := b1
  obtain ⟨a2, b2, c2⟩ := tk _ 4 c1 (by rw [b1', List.length_drop]; omega)
  rw [b1'] at a2 b2
  rw [List.drop_drop] at b2
  obtain ⟨a3, b3, c3⟩ := tk _ 4 c2 (by rw [b2, List.length_drop]; omega)
  rw [b2] at a3 b3
  rw [List.drop_drop] at b3
  obtain ⟨a4, b4, c4⟩ := tk _ 4 c3 (by rw [b3, List.length_drop]; omega)
  rw [b3] at a4 b4
  rw [List.drop_drop] at b4
  exact ⟨a1, a2, a3, a4, c4, by rw [b4]; exact List.drop_eq_nil_of_le (by omega)⟩
theorem aft_size (r : Pa.Rs) (n : Nat) : (r.bad = true → (r.aft n).bad = true) ∧ (r.bad = false → n ≤ r.s.size → (r.aft n).bad = false ∧ (r.aft n).s.size = r.s.size - n) ∧ (r.bad = false → r.s.size < n → (r.aft n).bad = true) := by
  obtain ⟨s, bad⟩ := r
  refine ⟨fun h => ?_, fun h hn => ?_, fun h hn => ?_⟩
  · simp only at h
    subst h
    simp [Pa.Rs.aft, Pa.Rs.no]
  · simp only at h hn
    subst h
    simp [Pa.Rs.aft, Pa.Rs.no, Nat.not_lt.2 hn, ByteArray.size_extract]
  · simp only at h hn
    subst h
    simp [Pa.Rs.aft, Pa.Rs.no, hn]
/-- .. of a text of any other length something is left, or missing -/
theorem reads_no (s : ByteArray) (hs : s.size ≠ 13) : (((((⟨s, false⟩ : Pa.Rs).aft 1).aft 4).aft 4).aft 4).bad = true ∨ 0 < (((((⟨s, false⟩ : Pa.Rs).aft 1).aft 4).aft 4).aft 4).s.size := by
  obtain ⟨_, p1, q1⟩ := aft_size ⟨s, false⟩ 1
  obtain ⟨o2, p2, q2⟩ := aft_size ((⟨s, false⟩ : Pa.Rs).aft 1) 4
  obtain ⟨o3, p3, q3⟩ := aft_size (((⟨s, false⟩ : Pa.Rs).aft 1).aft 4) 4
  obtain ⟨o4, p4, q4⟩ := aft_size ((((⟨s, false⟩ : Pa.Rs).aft 1).aft 4).aft 4) 4
  simp only at p1 q1
  by_cases h1 : s.size < 1
  · exact .inl (o4 (o3 (o2 (q1 trivial h1))))
  · obtain ⟨a1, b1⟩ := p1 trivial (by omega)
    by_cases h2 : s.size - 1 < 4
    · exact .inl (o4 (o3 (q2 a1 (by omega))))
    · obtain ⟨a2, b2⟩ := p2 a1 (by omega)
      by_cases h3 : s.size - 5 < 4
      · exact .inl (o4 (q3 a2 (by omega)))
      · obtain ⟨a3, b3⟩ := p3 a2 (by omega)
        by_cases h4 : s.size - 9 < 4
        · exact .inl (q4 a3 (by omega))
        · obtain ⟨a4, b4⟩ := p4 a3 (by omega)
          exact .inr (by omega)
end Go.Proofs.Ytfmhfngilimhjaa.Te

namespace Go.Proofs.Ytfmhfngilimhjaa.Te
open Go.RowKit

theorem fr_drewN {w : World} (q : Nat) : Fr (fun _ => False) w (w.drewN q) := (Fr.refl _ _).drewN q
theorem fr_nil {w w1 w2 : World} (h : Fr (fun _ => False) w w1) (k : Fr (fun _ => False) w1 w2) : Fr (fun _ => False) w w2 := h.trans k fun _ _ h => h
theorem rd_int {w : World} {A : Option Addr} {l : List Int} (h : Rd w A (l.map (Value.int .i64))) {j : Nat} (hj : j < l.length) : ∃ g o, A = some ⟨g, o, none⟩ ∧ g < w.heap.size ∧ w.cell? ⟨g, o + j, none⟩ = some (.int .i64 l[j]) := by
  have h0 : (l.map (Value.int .i64))[j]? = some (.int .i64 l[j]) := by rw [List.getElem?_map, List.getElem?_eq_getElem hj]; rfl
  obtain ⟨g, o, rfl, hg, hc⟩ := h (by have := (List.getElem?_eq_some_iff.1 h0).1; omega)
  exact ⟨g, o, rfl, hg, hc _ _ h0⟩

/-- beyond 0 to m -/
def outB (m n : Int) : Bool := decide (n < 0) || decide (m < n)
/-- the first place at which a test holds; -1, if there is none -/
def firstP {α : Type} (f : α → Bool) : List α → Nat → Int
  | [], _ => -1
  | x :: r, k => if f x = true then k else firstP f r (k + 1)
theorem firstP_ge {α : Type} (f : α → Bool) : ∀ (a : List α) (k : Nat), decide (0 ≤ firstP f a k) = a.any f
  | [], _ => rfl
  | x :: r, k => by
    unfold firstP
    rw [List.any_cons]
    by_cases h : f x = true
    · rw [if_pos h, h, Bool.true_or]
      simp
    · have hf : f x = false := by simpa using h
      rw [if_neg h, hf, Bool.false_or]
      exact firstP_ge f r (k + 1)
theorem okL_out (l : List Int) (n : Nat) (m : Int) : okL l n m = (decide (l.length = n) && !l.any (outB m)) := by
  unfold okL
  congr 1
  induction l with
  | nil => rfl
  | cons x r ih =>
    rw [List.all_cons, List.any_cons, ih, Bool.not_or]
    congr 1
    unfold outB
    rw [Bool.not_or, ← decide_not, ← decide_not]
    congr 2
    · simp
    · simp

/-- a measure behind its address -/
def Ms (w : World) (b : Nat) (n : Nat) (m : Int) : Prop := Is w b 159 #[.int .i64 (n : Int), .int .i64 m]

theorem bad_any {w : World} {b n : Nat} {m : Int} (hb : Ms w b n m) (x : Int) :
    Calls Try.prog 114 #[.int .i64 x, .pointer (some ⟨b, 0, none⟩)] w fun e w' => e = .returned (.bool (outB m x)) ∧ Fr (fun _ => False) w w' := by
  have k1 : w.cell? ⟨b, 1, none⟩ = some (.int .i64 m) := (hb.cell 1).trans rfl
  unfold outB
  by_cases h1 : x < 0
  · have e1 : decide (x < 0) = true := by simpa using h1
    rw [e1]
    go_enter Try.func114, Try.ntmps114
    go_wp2
    go_ret
    exact ⟨rfl, Fr.refl _ _⟩
  · have e1 : decide (x < 0) = false := by simpa using h1
    rw [e1]
    by_cases h2 : m < x
    · have e2 : decide (m < x) = true := by simpa using h2
      rw [e2]
      go_enter Try.func114, Try.ntmps114
      go_wp2
      go_ret
      exact ⟨rfl, Fr.refl _ _⟩
    · have e2 : decide (m < x) = false := by simpa using h2
      rw [e2]
      go_enter Try.func114, Try.ntmps114
      go_wp2
      go_ret
      exact ⟨rfl, Fr.refl _ _⟩

set_option maxHeartbeats 1000000 in
theorem indexi_any {A : Option Addr} {c b n : Nat} {m : Int} {a : List Int} (w : World) (ha : Rd w A (a.map (Value.int .i64))) (hal : a.length ≤ 9223372036854775807) (hb : Ms w b n m) :
    Calls Try.prog 120 #[.slice A a.length c, .func (.func 114) #[] #[.pointer (some ⟨b, 0, none⟩)]] w fun e w' => e = .returned (.int .i64 (firstP (outB m) a 0)) ∧ Fr (fun _ => False) w w' := by
  have K := fun x W (hb : Ms W b n m) => bad_any hb x
  generalize hT : firstP (outB m) a 0 = T
  have HT := Lib.hid hT
  clear hT
  go_enter Try.func120, Try.ntmps120
  go_wp2_with fail
  go_loopw [8] (fun i wr => ∃ k : Nat, k ≤ a.length ∧ i = .int .i64 (k : Nat) ∧ firstP (outB m) (a.drop k) k = T ∧ Fr (fun _ => False) w wr) (fun i _ => a.length - (intOf i).toNat)
  case atStart => exact ⟨0, Nat.zero_le _, rfl, HT.out, Fr.refl _ _⟩
  case round =>
    clear HT
    obtain ⟨k, hk, rfl, hT, fr⟩ := hrel
    by_cases hlt : k < a.length
    · obtain ⟨g, o, rfl, _, q0⟩ := rd_int (ha.fr fr fun _ _ => id) hlt
      have KX := K a[k]
      rw [List.drop_eq_getElem_cons hlt, firstP] at hT
      generalize a[k] = x at *
      cases hx : outB m x
      · rw [hx] at hT KX
        rw [if_neg (by decide)] at hT
        have HT := Lib.hid hT
        clear hT hx K
        go_wp2_with fail
        refine (KX _ (hb.fr fr id)).mono ?_
        rintro e w1 ⟨rfl, f1⟩
        go_wp2_with fail
        go_roundw
        case rel => exact ⟨k + 1, by omega, by go_num, HT.out, fr_nil fr f1⟩
        case measure => simp [intOf]; omega
      · rw [hx] at hT KX
        rw [if_pos rfl] at hT
        have HT := Lib.hid hT
        clear hT hx K
        go_wp2_with fail
        refine (KX _ (hb.fr fr id)).mono ?_
        rintro e w1 ⟨rfl, f1⟩
        go_wp2_with fail
        go_ret
        exact ⟨by rw [← HT.out]; rfl, fr_nil fr f1⟩
    · have hk' : k = a.length := by omega
      rw [List.drop_eq_nil_of_le (by omega)] at hT
      have HT := Lib.hid hT
      clear hT K hk'
      go_wp2_with fail
      go_ret
      exact ⟨by rw [← HT.out]; rfl, fr⟩
theorem containsi_any {A : Option Addr} {c b n : Nat} {m : Int} {a : List Int} (w : World) (ha : Rd w A (a.map (Value.int .i64))) (hal : a.length ≤ 9223372036854775807) (hb : Ms w b n m) :
    Calls Try.prog 113 #[.slice A a.length c, .func (.func 114) #[] #[.pointer (some ⟨b, 0, none⟩)]] w fun e w' => e = .returned (.bool (a.any (outB m))) ∧ Fr (fun _ => False) w w' := by
  have K := indexi_any (c := c) w ha hal hb
  rw [← firstP_ge _ _ 0]
  generalize firstP (outB m) a 0 = T at *
  go_enter Try.func113, Try.ntmps113
  go_wp2_with fail
  refine K.mono ?_
  rintro e w1 ⟨rfl, f1⟩
  go_wp2_with fail
  go_ret
  exact ⟨rfl, f1⟩
end Go.Proofs.Ytfmhfngilimhjaa.Te

namespace Go.Proofs.Ytfmhfngilimhjaa.Te
open Go.RowKit

theorem fits_any {A : Option Addr} {c n : Nat} {m : Int} {a : List Int} (w : World) (ha : Rd w A (a.map (Value.int .i64))) (hal : a.length ≤ 9223372036854775807) :
    Calls Try.prog 98 #[.agg #[.int .i64 (n : Int), .int .i64 m], .slice A a.length c] w fun e w' => e = .returned (.bool (okL a n m)) ∧ Fr (fun _ => False) w w' := by
  have is : Ms (w.alloc (.cells #[.int .i64 (n : Int), .int .i64 m] 159)) w.heap.size n m := Is.new _ _ _
  have f0 : Fr (fun _ => False) w (w.alloc (.cells #[.int .i64 (n : Int), .int .i64 m] 159)) := (Fr.refl _ w).alloc _
  have K := containsi_any (c := c) _ (ha.fr f0 fun _ _ => id) hal is
  have k0 := is.cell 0
  rw [okL_out]
  generalize a.any (outB m) = B at *
  by_cases h : a.length = n
  · have e1 : decide (a.length = n) = true := by simpa using h
    have e2 : ((a.length : Int) == (n : Int)) = true := by simp [h]
    rw [e1]
    have HA := Lib.hid ha
    clear h e1 ha
    go_enter Try.func98, Try.ntmps98
    go_wp2_with fail
    refine K.mono ?_
    rintro e w1 ⟨rfl, f1⟩
    go_wp2_with fail
    go_ret
    exact ⟨by rw [Bool.true_and]; rfl, fr_nil f0 f1⟩
  · have e1 : decide (a.length = n) = false := by simpa using h
    have e2 : ((a.length : Int) == (n : Int)) = false := by
      simp
      omega
    rw [e1]
    clear h e1 ha K
    go_enter Try.func98, Try.ntmps98
    go_wp2_with fail
    go_ret
    exact ⟨rfl, f0⟩

/-- a list of a payload: how many numbers it is to have, each 0 to what; where it stands; and what it is -/
structure Pt where
  n : Nat
  m : Int
  b : Nat
  o : Nat
  A : Option Addr
  l : List Int
  c : Nat
def Pt.cells (p : Pt) : List Value := [.int .i64 (p.n : Int), .int .i64 p.m, .pointer (some ⟨p.b, p.o, none⟩)]
def Pt.val (p : Pt) : Value := .agg #[.int .i64 (p.n : Int), .int .i64 p.m, .pointer (some ⟨p.b, p.o, none⟩)]
def Pt.good (p : Pt) : Bool := okL p.l p.n p.m
structure Pt.Ok (w : World) (p : Pt) : Prop where
  at_ : w.cell? ⟨p.b, p.o, none⟩ = some (.slice p.A p.l.length p.c)
  rd : Rd w p.A (p.l.map (Value.int .i64))
  le : p.l.length ≤ 17592186044416
  ne : p.n ≤ 17592186044416
  lt2 : 0 < p.l.length → ∀ k, blk p.A = some k → k < w.heap.size
theorem Pt.Ok.lt {w : World} {p : Pt} (h : p.Ok w) : p.b < w.heap.size := World.block_lt_of_cell? w ⟨p.b, p.o, none⟩ h.at_
theorem Pt.Ok.fr {w w1 : World} {p : Pt} {S : Nat → Prop} (h : p.Ok w) (f : Fr S w w1) (h1 : ¬ S p.b) (h2 : ∀ k, blk p.A = some k → ¬ S k) : p.Ok w1 :=
  { h with at_ := (f.cell (p := ⟨p.b, p.o, none⟩) h.lt h1).trans h.at_, rd := h.rd.fr f h2, lt2 := fun h0 k hk => Nat.lt_of_lt_of_le (h.lt2 h0 k hk) f.size }

theorem right_any {w : World} {p : Pt} (h : p.Ok w) :
    Calls Try.prog 85 #[p.val] w fun e w' => e = .returned (.bool p.good) ∧ Fr (fun _ => False) w w' := by
  obtain ⟨n, m, b, o, A, l, c⟩ := p
  obtain ⟨h1, h2, h3, h4, _⟩ := h
  simp only at h1 h2 h3 h4
  unfold Pt.val Pt.good
  simp only
  have is : Is (w.alloc (.cells #[.int .i64 (n : Int), .int .i64 m, .pointer (some ⟨b, o, none⟩)] 162)) w.heap.size 162 #[.int .i64 (n : Int), .int .i64 m, .pointer (some ⟨b, o, none⟩)] := Is.new _ _ _
  have f0 : Fr (fun _ => False) w (w.alloc (.cells #[.int .i64 (n : Int), .int .i64 m, .pointer (some ⟨b, o, none⟩)] 162)) := (Fr.refl _ w).alloc _
  have k0 := cell_fro ((is.cell 0).trans rfl)
  have k1 := cell_fro ((is.cell 1).trans rfl)
  have k2 := cell_fro ((is.cell 2).trans rfl)
  have k3 := cell_fro ((f0.cell (p := ⟨b, o, none⟩) (World.block_lt_of_cell? w ⟨b, o, none⟩ h1) id).trans h1)
  have rd := rd_fro (h2.fr f0 fun _ _ => id)
  have K := fun (u : Fro (w.alloc (.cells #[.int .i64 (n : Int), .int .i64 m, .pointer (some ⟨b, o, none⟩)] 162))) => fits_any (c := c) (n := n) (m := m) u.w (rd u) (by omega)
  clear h1 h2 is
  go_enter Try.func85, Try.ntmps85
  go_wp2_with fail
  refine region_fro (by kernel_rfl) (by kernel_rfl) ?_
  repeat (go_big_quiet_step (first | (go_at_call 98; with_reducible exact call_fro (K _))))
  refine wpQuiet_nil ?_
  rintro _ ⟨⟨w4, f4⟩, rfl⟩
  go_wp2
  go_ret
  exact ⟨rfl, fr_nil f0 f4⟩
end Go.Proofs.Ytfmhfngilimhjaa.Te

namespace Go.Proofs.Ytfmhfngilimhjaa.Te
open Go.RowKit

def cellsP (l : List Pt) : List Value := l.flatMap Pt.cells
theorem cellsP_length (l : List Pt) : (cellsP l).length = l.length * 3 := by
  induction l with
  | nil => rfl
  | cons v r ih =>
    have e : cellsP (v :: r) = v.cells ++ cellsP r := rfl
    rw [e, List.length_append, ih, List.length_cons]
    simp [Pt.cells]
    omega
theorem cellsP_at {l : List Pt} {j : Nat} (h : j < l.length) : (cellsP l)[j * 3]? = some (.int .i64 (l[j].n : Int)) ∧ (cellsP l)[j * 3 + 1]? = some (.int .i64 l[j].m) ∧ (cellsP l)[j * 3 + 2]? = some (.pointer (some ⟨l[j].b, l[j].o, none⟩)) := by
  induction l generalizing j with
  | nil => simp at h
  | cons v r ih =>
    have e : cellsP (v :: r) = v.cells ++ cellsP r := rfl
    rcases j with _ | j
    · rw [e]; simp [Pt.cells]
    · have := ih (j := j) (by simpa using h)
      rw [e, show (j + 1) * 3 = 3 + j * 3 by omega, show 3 + j * 3 + 1 = 3 + (j * 3 + 1) by omega, show 3 + j * 3 + 2 = 3 + (j * 3 + 2) by omega]
      rw [List.getElem?_append_right (by simp [Pt.cells]), List.getElem?_append_right (by simp [Pt.cells]), List.getElem?_append_right (by simp [Pt.cells])]
      simpa [Pt.cells] using this
theorem rd_pt {w : World} {A : Option Addr} {l : List Pt} (h : Rd w A (cellsP l)) {j : Nat} (hj : j < l.length) : ∃ g o, A = some ⟨g, o, none⟩ ∧ g < w.heap.size ∧ w.cell? ⟨g, o + j * 3, none⟩ = some (.int .i64 (l[j].n : Int)) ∧ w.cell? ⟨g, o + j * 3 + 1, none⟩ = some (.int .i64 l[j].m) ∧ w.cell? ⟨g, o + j * 3 + 2, none⟩ = some (.pointer (some ⟨l[j].b, l[j].o, none⟩)) := by
  obtain ⟨h0, h1, h2⟩ := cellsP_at hj
  obtain ⟨g, o, rfl, hg, hc⟩ := h (by have := (List.getElem?_eq_some_iff.1 h0).1; omega)
  exact ⟨g, o, rfl, hg, hc _ _ h0, hc _ _ h1, hc _ _ h2⟩

structure Prs (w : World) (A : Option Addr) (l : List Pt) : Prop where
  rd : Rd w A (cellsP l)
  ok : ∀ p ∈ l, p.Ok w
theorem Prs.fr {w w1 : World} {A : Option Addr} {l : List Pt} (h : Prs w A l) (f : Fr (fun _ => False) w w1) : Prs w1 A l := ⟨h.rd.fr f fun _ _ => id, fun p hp => (h.ok p hp).fr f id fun _ _ => id⟩

theorem wrong_any {w : World} {p : Pt} (h : p.Ok w) :
    Calls Try.prog 84 #[p.val] w fun e w' => e = .returned (.bool (!p.good)) ∧ Fr (fun _ => False) w w' := by
  have f0 : Fr (fun _ => False) w (w.alloc (.cells #[.int .i64 (p.n : Int), .int .i64 p.m, .pointer (some ⟨p.b, p.o, none⟩)] 162)) := (Fr.refl _ w).alloc _
  have K := right_any (h.fr f0 id fun _ _ => id)
  unfold Pt.val at *
  go_enter Try.func84, Try.ntmps84
  go_wp2_with fail
  refine K.mono ?_
  rintro e w1 ⟨rfl, f1⟩
  go_wp2_with fail
  go_ret
  exact ⟨rfl, fr_nil f0 f1⟩
theorem wrongr_any {w : World} {p : Pt} (h : p.Ok w) :
    Calls Try.prog 111 #[p.val] w fun e w' => e = .returned (.bool (!p.good)) ∧ Fr (fun _ => False) w w' := by
  have f0 : Fr (fun _ => False) w (w.alloc (.cells #[.int .i64 (p.n : Int), .int .i64 p.m, .pointer (some ⟨p.b, p.o, none⟩)] 162)) := (Fr.refl _ w).alloc _
  have K := right_any (h.fr f0 id fun _ _ => id)
  unfold Pt.val at *
  go_enter Try.func111, Try.ntmps111
  go_wp2_with fail
  refine K.mono ?_
  rintro e w1 ⟨rfl, f1⟩
  go_wp2_with fail
  go_ret
  exact ⟨rfl, fr_nil f0 f1⟩

theorem not_all : ∀ l : List Pt, (!l.all Pt.good) = l.any fun p => !p.good
  | [] => rfl
  | x :: r => by rw [List.all_cons, List.any_cons, Bool.not_and, not_all r]
-- TWO
set_option maxHeartbeats 1000000 in
theorem indexp_any {A : Option Addr} {c : Nat} {ps : List Pt} (w : World) (h : Prs w A ps) (hal : ps.length ≤ 9223372036854775807) :
    Calls Try.prog 97 #[.slice A ps.length c, .func (.func 84) #[] #[]] w fun e w' => e = .returned (.int .i64 (firstP (fun p : Pt => !p.good) ps 0)) ∧ Fr (fun _ => False) w w' := by
  have K := fun (p : Pt) (W : World) (h : p.Ok W) => wrong_any h
  generalize hT : firstP (fun p : Pt => !p.good) ps 0 = T
  have HT := Lib.hid hT
  clear hT
  go_enter Try.func97, Try.ntmps97
  go_wp2_with fail
  go_loopw [8] (fun i wr => ∃ k : Nat, k ≤ ps.length ∧ i = .int .i64 (k : Nat) ∧ firstP (fun p : Pt => !p.good) (ps.drop k) k = T ∧ Fr (fun _ => False) w wr) (fun i _ => ps.length - (intOf i).toNat)
  case atStart => exact ⟨0, Nat.zero_le _, rfl, HT.out, Fr.refl _ _⟩
  case round =>
    clear HT
    obtain ⟨k, hk, rfl, hT, fr⟩ := hrel
    by_cases hlt : k < ps.length
    · obtain ⟨g, o, rfl, _, q0, q1, q2⟩ := rd_pt (h.fr fr).rd hlt
      have KX := K ps[k] wr ((h.fr fr).ok _ (List.getElem_mem hlt))
      unfold Pt.val at KX
      rw [List.drop_eq_getElem_cons hlt, firstP] at hT
      generalize ps[k] = x at *
      cases hx : x.good
      · rw [hx] at hT KX
        rw [if_pos (by rfl)] at hT
        have HT := Lib.hid hT
        clear hT hx K
        go_wp2_with fail
        refine KX.mono ?_
        rintro e w1 ⟨rfl, f1⟩
        go_wp2_with fail
        go_ret
        exact ⟨by rw [← HT.out]; rfl, fr_nil fr f1⟩
      · rw [hx] at hT KX
        rw [if_neg (by decide)] at hT
        have HT := Lib.hid hT
        clear hT hx K
        go_wp2_with fail
        refine KX.mono ?_
        rintro e w1 ⟨rfl, f1⟩
        go_wp2_with fail
        go_roundw
        case rel => exact ⟨k + 1, by omega, by go_num, HT.out, fr_nil fr f1⟩
        case measure => simp [intOf]; omega
    · have hk' : k = ps.length := by omega
      rw [List.drop_eq_nil_of_le (by omega)] at hT
      have HT := Lib.hid hT
      clear hT K hk'
      go_wp2_with fail
      go_ret
      exact ⟨by rw [← HT.out]; rfl, fr⟩
theorem containsp_any {A : Option Addr} {c : Nat} {ps : List Pt} (w : World) (h : Prs w A ps) (hal : ps.length ≤ 9223372036854775807) :
    Calls Try.prog 83 #[.slice A ps.length c, .func (.func 84) #[] #[]] w fun e w' => e = .returned (.bool (!ps.all Pt.good)) ∧ Fr (fun _ => False) w w' := by
  have K := indexp_any (c := c) w h hal
  rw [not_all, ← firstP_ge _ _ 0]
  generalize firstP (fun p : Pt => !p.good) ps 0 = T at *
  go_enter Try.func83, Try.ntmps83
  go_wp2_with fail
  refine K.mono ?_
  rintro e w1 ⟨rfl, f1⟩
  go_wp2_with fail
  go_ret
  exact ⟨rfl, f1⟩
-- COPY
set_option maxHeartbeats 1000000 in
theorem indexr_any {A : Option Addr} {c : Nat} {ps : List Pt} (w : World) (h : Prs w A ps) (hal : ps.length ≤ 9223372036854775807) :
    Calls Try.prog 97 #[.slice A ps.length c, .func (.func 111) #[] #[]] w fun e w' => e = .returned (.int .i64 (firstP (fun p : Pt => !p.good) ps 0)) ∧ Fr (fun _ => False) w w' := by
  have K := fun (p : Pt) (W : World) (h : p.Ok W) => wrongr_any h
  generalize hT : firstP (fun p : Pt => !p.good) ps 0 = T
  have HT := Lib.hid hT
  clear hT
  go_enter Try.func97, Try.ntmps97
  go_wp2_with fail
  go_loopw [8] (fun i wr => ∃ k : Nat, k ≤ ps.length ∧ i = .int .i64 (k : Nat) ∧ firstP (fun p : Pt => !p.good) (ps.drop k) k = T ∧ Fr (fun _ => False) w wr) (fun i _ => ps.length - (intOf i).toNat)
  case atStart => exact ⟨0, Nat.zero_le _, rfl, HT.out, Fr.refl _ _⟩
  case round =>
    clear HT
    obtain ⟨k, hk, rfl, hT, fr⟩ := hrel
    by_cases hlt : k < ps.length
    · obtain ⟨g, o, rfl, _, q0, q1, q2⟩ := rd_pt (h.fr fr).rd hlt
      have KX := K ps[k] wr ((h.fr fr).ok _ (List.getElem_mem hlt))
      unfold Pt.val at KX
      rw [List.drop_eq_getElem_cons hlt, firstP] at hT
      generalize ps[k] = x at *
      cases hx : x.good
      · rw [hx] at hT KX
        rw [if_pos (by rfl)] at hT
        have HT := Lib.hid hT
        clear hT hx K
        go_wp2_with fail
        refine KX.mono ?_
        rintro e w1 ⟨rfl, f1⟩
        go_wp2_with fail
        go_ret
        exact ⟨by rw [← HT.out]; rfl, fr_nil fr f1⟩
      · rw [hx] at hT KX
        rw [if_neg (by decide)] at hT
        have HT := Lib.hid hT
        clear hT hx K
        go_wp2_with fail
        refine KX.mono ?_
        rintro e w1 ⟨rfl, f1⟩
        go_wp2_with fail
        go_roundw
        case rel => exact ⟨k + 1, by omega, by go_num, HT.out, fr_nil fr f1⟩
        case measure => simp [intOf]; omega
    · have hk' : k = ps.length := by omega
      rw [List.drop_eq_nil_of_le (by omega)] at hT
      have HT := Lib.hid hT
      clear hT K hk'
      go_wp2_with fail
      go_ret
      exact ⟨by rw [← HT.out]; rfl, fr⟩
theorem containsr_any {A : Option Addr} {c : Nat} {ps : List Pt} (w : World) (h : Prs w A ps) (hal : ps.length ≤ 9223372036854775807) :
    Calls Try.prog 83 #[.slice A ps.length c, .func (.func 111) #[] #[]] w fun e w' => e = .returned (.bool (!ps.all Pt.good)) ∧ Fr (fun _ => False) w w' := by
  have K := indexr_any (c := c) w h hal
  rw [not_all, ← firstP_ge _ _ 0]
  generalize firstP (fun p : Pt => !p.good) ps 0 = T at *
  go_enter Try.func83, Try.ntmps83
  go_wp2_with fail
  refine K.mono ?_
  rintro e w1 ⟨rfl, f1⟩
  go_wp2_with fail
  go_ret
  exact ⟨rfl, f1⟩
-- END

/-- how many bytes a payload of these parts has -/
def widthP (l : List Pt) : Nat := l.foldl (fun s p => s + p.n) 1
theorem widthP_snoc (l : List Pt) (p : Pt) : widthP (l ++ [p]) = widthP l + p.n := by simp [widthP, List.foldl_append]
theorem widthP_take (l : List Pt) (hn : ∀ p ∈ l, p.n ≤ 17592186044416) : ∀ k, k ≤ l.length → widthP (l.take k) ≤ 1 + k * 17592186044416
  | 0, _ => by simp [widthP]
  | k + 1, hk => by
    have ih := widthP_take l hn k (by omega)
    rw [List.take_succ_eq_append_getElem (by omega), widthP_snoc]
    have := hn l[k] (List.getElem_mem _)
    omega
theorem width_any {A : Option Addr} {c : Nat} {ps : List Pt} (w : World) (h : Rd w A (cellsP ps)) (hn : ∀ p ∈ ps, p.n ≤ 17592186044416) (hal : ps.length ≤ 4) :
    Calls Try.prog 86 #[.slice A ps.length c] w fun e w' => e = .returned (.int .i64 (widthP ps : Int)) ∧ Fr (fun _ => False) w w' := by
  have HW := Lib.hid (widthP_take ps hn)
  clear hn
  go_enter Try.func86, Try.ntmps86
  go_wp2_with fail
  go_loopw [3, 8] (fun s i wr => ∃ k : Nat, k ≤ ps.length ∧ i = .int .i64 (k : Nat) ∧ s = .int .i64 (widthP (ps.take k) : Nat) ∧ Fr (fun _ => False) w wr) (fun _ i _ => ps.length - (intOf i).toNat)
  case atStart => exact ⟨0, Nat.zero_le _, rfl, rfl, Fr.refl _ _⟩
  case round =>
    obtain ⟨k, hk, rfl, rfl, fr⟩ := hrel
    by_cases hlt : k < ps.length
    · obtain ⟨g, o, rfl, _, q0, q1, q2⟩ := rd_pt (h.fr fr fun _ _ => id) hlt
      have hw1 := HW.out (k + 1) (by omega)
      have hw : widthP (ps.take (k + 1)) = widthP (ps.take k) + ps[k].n := by rw [List.take_succ_eq_append_getElem (by omega), widthP_snoc]
      rw [hw] at hw1
      have hs : widthP (ps.take k) + ps[k].n ≤ 70368744177665 := by omega
      have HX := Lib.hid hw
      clear hw hw1
      generalize ps[k] = x at *
      generalize widthP (ps.take k) = s at *
      go_wp2_with fail
      go_roundw
      case rel => exact ⟨k + 1, by omega, by go_num, by rw [HX.out]; go_num, fr.alloc _⟩
      case measure => simp [intOf]; omega
    · have hk' : k = ps.length := by omega
      have HT := Lib.hid (show widthP (ps.take k) = widthP ps by rw [hk', List.take_length])
      clear hk'
      go_wp2_with fail
      go_ret
      exact ⟨by rw [← HT.out]; rfl, fr⟩
end Go.Proofs.Ytfmhfngilimhjaa.Te


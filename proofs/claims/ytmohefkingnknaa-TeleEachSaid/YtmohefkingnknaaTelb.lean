/- What the document says of blocks' payloads, as plain functions; the writer's and the reader's way to it. -/
import Derived.Test.YtmohefkingnknaaTelem
import Derived.Test.YtmohefkingnknaaPfacts
namespace Go.Proofs.Ytmohefkingnknaa.Te
open Go.RowKit

def blOk (a d g : Int) : Bool := Pk.fits 4 a && (Pk.fits 4 d && Pk.fits 4 g)
def blB (a d g : Int) : List UInt8 := Pk.digits 1 3 ++ (Pk.digits 4 a ++ (Pk.digits 4 d ++ Pk.digits 4 g))
/-- the payload of a block, and the error -/
def blL (a d g : Int) : List UInt8 × Int := if blOk a d g = true then (blB a d g, 0) else ([], 32)
structure Bl where
  a : Int
  d : Int
  g : Int
/-- what a payload says, and the error -/
def rblL (t : List UInt8) : Bl × Int := if t.length = 13 ∧ Pa.val (t.take 1) = 3 then (⟨Pa.val ((t.drop 1).take 4), Pa.val ((t.drop 5).take 4), Pa.val ((t.drop 9).take 4)⟩, 0) else (⟨0, 0, 0⟩, 3)
theorem blOk_iff {a d g : Int} : blOk a d g = true ↔ Pk.fits 4 a = true ∧ Pk.fits 4 d = true ∧ Pk.fits 4 g = true := by
  unfold blOk
  simp only [Bool.and_eq_true]
theorem byte_of (b : UInt8) (m : Int) (h : m = (b.toNat : Int)) (width : Nat) (n : Int) (i : Nat) (hm : n / 2 ^ (8 * (width - 1 - i)) % 256 = m) : Pk.dig width n i = b := by
  apply UInt8.toNat_inj.1
  have := Pa.dig_toNat width n i
  omega
theorem digits4 (l : List UInt8) (hl : l.length = 4) : Pk.digits 4 (Pa.val l) = l ∧ Pk.fits 4 (Pa.val l) = true := by
  constructor
  · match l, hl with
    | [a, b, c, d], _ =>
      have ha := UInt8.toNat_lt a
      have hb := UInt8.toNat_lt b
      have hc := UInt8.toNat_lt c
      have hd := UInt8.toNat_lt d
      have e : Pa.val [a, b, c, d] = (((a.toNat : Int) * 256 + (b.toNat : Int)) * 256 + (c.toNat : Int)) * 256 + (d.toNat : Int) := by simp [Pa.val]
      rw [e]
      show [Pk.dig 4 _ 0, Pk.dig 4 _ 1, Pk.dig 4 _ 2, Pk.dig 4 _ 3] = _
      rw [byte_of a _ rfl 4 _ 0 (by simp; omega), byte_of b _ rfl 4 _ 1 (by simp; omega), byte_of c _ rfl 4 _ 2 (by simp; omega), byte_of d _ rfl 4 _ 3 (by simp; omega)]
  · have hb := Pa.val_take_bd l 4 (by omega)
    rw [List.take_of_length_le (by omega)] at hb
    exact Pa.fits_of hb.1 (by have : (256 : Int) ^ 4 = 2 ^ (8 * 4) := rfl; omega)
theorem blB_length (a d g : Int) : (blB a d g).length = 13 := by simp [blB, Pk.digits_length]
theorem three : Pk.digits 1 3 = [3] := rfl
theorem rbl_bl {a d g : Int} (h : blOk a d g = true) : rblL (blB a d g) = (⟨a, d, g⟩, 0) := by
  obtain ⟨h1, h2, h3⟩ := blOk_iff.1 h
  have la := Pk.digits_length 4 a
  have ld := Pk.digits_length 4 d
  have lg := Pk.digits_length 4 g
  have e0 : (blB a d g).take 1 = [3] := by unfold blB; rw [three]; rfl
  have e1 : (blB a d g).drop 1 = Pk.digits 4 a ++ (Pk.digits 4 d ++ Pk.digits 4 g) := by unfold blB; rw [three]; rfl
  have e5 : (blB a d g).drop 5 = Pk.digits 4 d ++ Pk.digits 4 g := by
    rw [show 5 = 1 + 4 from rfl, ← List.drop_drop, e1, List.drop_left' la]
  have e9 : (blB a d g).drop 9 = Pk.digits 4 g := by
    rw [show 9 = 5 + 4 from rfl, ← List.drop_drop, e5, List.drop_left' ld]
  unfold rblL
  rw [blB_length, e0, e1, e5, e9, List.take_left' la, List.take_left' ld, List.take_of_length_le (by omega), if_pos ⟨rfl, rfl⟩, Pa.val_digits (.inr (.inr rfl)) h1, Pa.val_digits (.inr (.inr rfl)) h2, Pa.val_digits (.inr (.inr rfl)) h3]
theorem bl_rbl {t : List UInt8} (h : (rblL t).2 = 0) : blL (rblL t).1.a (rblL t).1.d (rblL t).1.g = (t, 0) := by
  unfold rblL at *
  by_cases hc : t.length = 13 ∧ Pa.val (t.take 1) = 3
  · rw [if_pos hc]
    obtain ⟨hl, hv⟩ := hc
    have l1 : ((t.drop 1).take 4).length = 4 := by rw [List.length_take, List.length_drop]; omega
    have l5 : ((t.drop 5).take 4).length = 4 := by rw [List.length_take, List.length_drop]; omega
    have l9 : ((t.drop 9).take 4).length = 4 := by rw [List.length_take, List.length_drop]; omega
    obtain ⟨d1, f1⟩ := digits4 _ l1
    obtain ⟨d5, f5⟩ := digits4 _ l5
    obtain ⟨d9, f9⟩ := digits4 _ l9
    have hb : t.take 1 = [3] := by
      have l0 : (t.take 1).length = 1 := by rw [List.length_take]; omega
      match hq : t.take 1, l0 with
      | [b], _ =>
        rw [hq] at hv
        have e : Pa.val [b] = (b.toNat : Int) := by simp [Pa.val]
        rw [e] at hv
        have : b = 3 := UInt8.toNat_inj.1 (by show b.toNat = 3; omega)
        rw [this]
    unfold blL
    simp only
    rw [if_pos (blOk_iff.2 ⟨f1, f5, f9⟩)]
    unfold blB
    rw [d1, d5, d9, three, ← hb]
    have k1 := List.take_append_drop 1 t
    have k2 := List.take_append_drop 4 (t.drop 1)
    have k3 := List.take_append_drop 4 (t.drop 5)
    rw [List.drop_drop] at k2 k3
    have k4 : (t.drop 9).take 4 = t.drop 9 := List.take_of_length_le (by rw [List.length_drop]; omega)
    rw [k4, k3, k2, k1]
  · rw [if_neg hc] at h; cases h
theorem rbl_head {t : List UInt8} (h : (rblL t).2 = 0) : t.head? = some 3 ∧ t.length = 13 := by
  have k := bl_rbl h
  unfold blL at k
  split at k
  · injection k with k
    rw [← k]
    exact ⟨by unfold blB; rw [three]; rfl, blB_length _ _ _⟩
  · injection k with _ k
    cases k
/-- the writer's way -/
theorem nums_bl (a d g : Int) : (((((⟨13, [], 0⟩ : Pk.S).num 1 3).num 4 a).num 4 d).num 4 g).done = blL a d g := by
  have la := Pk.digits_length 4 a
  have ld := Pk.digits_length 4 d
  have lg := Pk.digits_length 4 g
  have e1 : (⟨13, [], 0⟩ : Pk.S).num 1 3 = ⟨13, Pk.digits 1 3, 0⟩ := by
    unfold Pk.S.num Pk.S.put
    rw [if_pos (show Pk.fits 1 3 = true from rfl), if_pos rfl, if_pos (by rw [three]; decide)]
    rfl
  rw [e1, three]
  unfold blL blOk
  by_cases h1 : Pk.fits 4 a = true
  · have e2 : (⟨13, [3], 0⟩ : Pk.S).num 4 a = ⟨13, [3] ++ Pk.digits 4 a, 0⟩ := by
      unfold Pk.S.num Pk.S.put
      rw [if_pos h1, if_pos rfl, if_pos (by simp only [la, List.length_cons, List.length_nil]; decide)]
    rw [e2]
    by_cases h2 : Pk.fits 4 d = true
    · have e3 : (⟨13, [3] ++ Pk.digits 4 a, 0⟩ : Pk.S).num 4 d = ⟨13, [3] ++ Pk.digits 4 a ++ Pk.digits 4 d, 0⟩ := by
        unfold Pk.S.num Pk.S.put
        rw [if_pos h2, if_pos rfl, if_pos (by simp only [List.length_append, la, ld, List.length_cons, List.length_nil]; decide)]
      rw [e3]
      by_cases h3 : Pk.fits 4 g = true
      · have e4 : (⟨13, [3] ++ Pk.digits 4 a ++ Pk.digits 4 d, 0⟩ : Pk.S).num 4 g = ⟨13, [3] ++ Pk.digits 4 a ++ Pk.digits 4 d ++ Pk.digits 4 g, 0⟩ := by
          unfold Pk.S.num Pk.S.put
          rw [if_pos h3, if_pos rfl, if_pos (by simp only [List.length_append, la, ld, lg, List.length_cons, List.length_nil]; decide)]
        rw [e4, h1, h2, h3]
        show ([3] ++ Pk.digits 4 a ++ Pk.digits 4 d ++ Pk.digits 4 g, (0 : Int)) = (blB a d g, 0)
        unfold blB
        rw [three, List.append_assoc, List.append_assoc]
      · have e4 : (⟨13, [3] ++ Pk.digits 4 a ++ Pk.digits 4 d, 0⟩ : Pk.S).num 4 g = ⟨13, [3] ++ Pk.digits 4 a ++ Pk.digits 4 d, 32⟩ := by
          unfold Pk.S.num Pk.S.fail
          rw [if_neg h3, if_pos rfl]
        rw [e4, if_neg (by simp [h3])]
        rfl
    · have e3 : (⟨13, [3] ++ Pk.digits 4 a, 0⟩ : Pk.S).num 4 d = ⟨13, [3] ++ Pk.digits 4 a, 32⟩ := by
        unfold Pk.S.num Pk.S.fail
        rw [if_neg h2, if_pos rfl]
      rw [e3, Pk.S.num_bad (s := ⟨13, [3] ++ Pk.digits 4 a, 32⟩) (show (32 : Int) ≠ 0 by decide) 4 g, if_neg (by simp [h2])]
      rfl
  · have e2 : (⟨13, [3], 0⟩ : Pk.S).num 4 a = ⟨13, [3], 32⟩ := by
      unfold Pk.S.num Pk.S.fail
      rw [if_neg h1, if_pos rfl]
    rw [e2, Pk.S.num_bad (s := ⟨13, [3], 32⟩) (show (32 : Int) ≠ 0 by decide) 4 d, Pk.S.num_bad (s := ⟨13, [3], 32⟩) (show (32 : Int) ≠ 0 by decide) 4 g, if_neg (by simp [h1])]
    rfl
/-- the reader's way: four readings of a text, and what is left -/
theorem reads_bl (s : ByteArray) (hs : s.size = 13) :
    let r0 : Pa.Rs := ⟨s, false⟩
    bytesOf (r0.tk 1) = (bytesOf s).take 1 ∧ bytesOf ((r0.aft 1).tk 4) = ((bytesOf s).drop 1).take 4 ∧ bytesOf (((r0.aft 1).aft 4).tk 4) = ((bytesOf s).drop 5).take 4 ∧ bytesOf ((((r0.aft 1).aft 4).aft 4).tk 4) = ((bytesOf s).drop 9).take 4 ∧ ((((r0.aft 1).aft 4).aft 4).aft 4).bad = false ∧ bytesOf ((((r0.aft 1).aft 4).aft 4).aft 4).s = [] := by
  intro r0
  have hl : (bytesOf s).length = 13 := by rw [bytesOf_length, hs]
  have tk : ∀ (r : Pa.Rs) (n : Nat), r.bad = false → n ≤ (bytesOf r.s).length → bytesOf (r.tk n) = (bytesOf r.s).take n ∧ bytesOf (r.aft n).s = (bytesOf r.s).drop n ∧ (r.aft n).bad = false := fun r n hb hn => by
    have h := Pa.Rs.read_tk (l := (bytesOf r.s).take n) (k := (bytesOf r.s).drop n) hb (List.take_append_drop n _).symm
    rwa [List.length_take, Nat.min_eq_left hn] at h
  obtain ⟨a1, b1, c1⟩ := tk r0 1 rfl (by show 1 ≤ (bytesOf s).length; omega)
  have b1' : bytesOf (r0.aft 1).s = (bytesOf s).drop 1 := b1
  obtain ⟨a2, b2, c2⟩ := tk _ 4 c1 (by rw [b1', List.length_drop]; omega)
  rw [b1'] at a2 b2
  rw [List.drop_drop] at b2
  obtain ⟨a3, b3, c3⟩ := tk _ 4 c2 (by rw [b2, List.length_drop]; omega)
  rw [b2] at a3 b3
  rw [List.drop_drop] at b3
  obtain ⟨a4, b4, c4⟩ := tk _ 4 c3 (by rw [b3, List.length_drop]; omega)
  rw [b3] at a4 b4
  rw [List.drop_drop] at b4
  exact ⟨a1, a2, a3, a4, c4, by rw [b4]; exact List.drop_eq_nil_of_le (by omega)⟩
theorem aft_size (r : Pa.Rs) (n : Nat) : (r.bad = true → (r.aft n).bad = true) ∧ (r.bad = false → n ≤ r.s.size → (r.aft n).bad = false ∧ (r.aft n).s.size = r.s.size - n) ∧ (r.bad = false → r.s.size < n → (r.aft n).bad = true) := by
  obtain ⟨s, bad⟩ := r
  refine ⟨fun h => ?_, fun h hn => ?_, fun h hn => ?_⟩
  · simp only at h
    subst h
    simp [Pa.Rs.aft, Pa.Rs.no]
  · simp only at h hn
    subst h
    simp [Pa.Rs.aft, Pa.Rs.no, Nat.not_lt.2 hn, ByteArray.size_extract]
  · simp only at h hn
    subst h
    simp [Pa.Rs.aft, Pa.Rs.no, hn]
/-- .. of a text of any other length something is left, or missing -/
theorem reads_no (s : ByteArray) (hs : s.size ≠ 13) : (((((⟨s, false⟩ : Pa.Rs).aft 1).aft 4).aft 4).aft 4).bad = true ∨ 0 < (((((⟨s, false⟩ : Pa.Rs).aft 1).aft 4).aft 4).aft 4).s.size := by
  obtain ⟨_, p1, q1⟩ := aft_size ⟨s, false⟩ 1
  obtain ⟨o2, p2, q2⟩ := aft_size ((⟨s, false⟩ : Pa.Rs).aft 1) 4
  obtain ⟨o3, p3, q3⟩ := aft_size (((⟨s, false⟩ : Pa.Rs).aft 1).aft 4) 4
  obtain ⟨o4, p4, q4⟩ := aft_size ((((⟨s, false⟩ : Pa.Rs).aft 1).aft 4).aft 4) 4
  simp only at p1 q1
  by_cases h1 : s.size < 1
  · exact .inl (o4 (o3 (o2 (q1 trivial h1))))
  · obtain ⟨a1, b1⟩ := p1 trivial (by omega)
    by_cases h2 : s.size - 1 < 4
    · exact .inl (o4 (o3 (q2 a1 (by omega))))
    · obtain ⟨a2, b2⟩ := p2 a1 (by omega)
      by_cases h3 : s.size - 5 < 4
      · exact .inl (o4 (q3 a2 (by omega)))
      · obtain ⟨a3, b3⟩ := p3 a2 (by omega)
        by_cases h4 : s.size - 9 < 4
        · exact .inl (q4 a3 (by omega))
        · obtain ⟨a4, b4⟩ := p4 a3 (by omega)
          exact .inr (by omega)
end Go.Proofs.Ytmohefkingnknaa.Te

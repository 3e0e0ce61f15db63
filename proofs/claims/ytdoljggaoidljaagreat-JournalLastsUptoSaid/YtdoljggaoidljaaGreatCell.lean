/- Plain: what a memory of pages is, and what its calls do to it. Nothing here speaks of the program. -/
import Derived.Test.YtdoljggaoidljaaGreatHeap
namespace Go.Proofs.YtdoljggaoidljaaGreat

/-- A memory: acts so far, acts at the arming, the cuts by the acts from the arming on, is it down, the bytes by page and place, how often each page was erased. -/
structure Mm where
  acts : Nat
  armed : Nat
  cut : Nat → Option Int
  down : Bool
  pg : Nat → Nat → UInt8
  worn : Nat → Nat

/-- the least place from which on all of the first n are bare -/
def bareN (f : Nat → UInt8) : Nat → Nat
  | 0 => 0
  | n + 1 => if f n = 255 then bareN f n else n + 1
/-- n bytes from a place on -/
def cutP (f : Nat → UInt8) (at' n : Nat) : List UInt8 := (List.range n).map fun i => f (at' + i)
/-- a text put at a place of a page -/
def layP (g : Nat → Nat → UInt8) (p at' : Nat) (t : List UInt8) : Nat → Nat → UInt8 := fun q i => if q = p ∧ at' ≤ i ∧ i < at' + t.length then t.getD (i - at') 0 else g q i

namespace Mm
def new : Mm := ⟨0, 0, fun _ => none, false, fun _ _ => 255, fun _ => 0⟩
def again (m : Mm) : Mm := ⟨0, 0, fun _ => none, false, m.pg, m.worn⟩
def hit (m : Mm) : Bool := (m.cut (m.acts - m.armed)).isSome
def part (m : Mm) (n : Nat) : Nat := match m.cut (m.acts - m.armed) with
  | none => n
  | some p => min p.toNat n
def actE (m : Mm) : Nat := if m.hit = true then 14 else 0
def act (m : Mm) : Mm := { m with acts := m.acts + 1, down := m.hit }
def arm (m : Mm) (c : Nat → Option Int) : Mm := { m with armed := m.acts, cut := c }
/-- the error of n places of a page from at on -/
def spotE (m : Mm) (page at' n : Int) : Nat :=
  if m.down = true then 14 else if ¬ (0 ≤ page ∧ page < 24) ∨ at' < 0 ∨ 4096 < at' then 20 else if n < 0 ∨ 4096 - at' < n then 2 else 0
def burnt (m : Mm) (page at' : Int) (n : Nat) : Nat := bareN (fun i => m.pg page.toNat (at'.toNat + i)) n
def burnE (m : Mm) (page at' : Int) (t : List UInt8) : Nat :=
  if m.spotE page at' t.length = 0 then (if m.burnt page at' t.length = 0 then m.actE else 15) else m.spotE page at' t.length
def burnM (m : Mm) (page at' : Int) (t : List UInt8) : Mm :=
  if m.spotE page at' t.length = 0 ∧ m.burnt page at' t.length = 0 then { m.act with pg := layP m.pg page.toNat at'.toNat (t.take (m.part t.length)) } else m
def eraseE (m : Mm) (page : Int) : Nat := if m.spotE page 0 4096 = 0 then m.actE else m.spotE page 0 4096
def eraseM (m : Mm) (page : Int) : Mm :=
  if m.spotE page 0 4096 = 0 then { m.act with pg := layP m.pg page.toNat 0 (List.replicate (m.part 4096) 255), worn := fun q => if q = page.toNat then m.worn q + 1 else m.worn q } else m
def readT (m : Mm) (page at' n : Int) : List UInt8 := if m.spotE page at' n = 0 then cutP (m.pg page.toNat) at'.toNat n.toNat else []
def bare (m : Mm) (page : Int) : Nat := if 0 ≤ page ∧ page < 24 then bareN (m.pg page.toNat) 4096 else 0
def wornAt (m : Mm) (page : Int) : Nat := if 0 ≤ page ∧ page < 24 then m.worn page.toNat else 0
end Mm

theorem bareN_le (f : Nat → UInt8) : ∀ n, bareN f n ≤ n
  | 0 => Nat.le_refl _
  | n + 1 => by
    unfold bareN
    split
    · exact Nat.le_succ_of_le (bareN_le f n)
    · exact Nat.le_refl _
theorem bareN_zero (f : Nat → UInt8) : ∀ n, bareN f n = 0 ↔ ∀ i, i < n → f i = 255
  | 0 => by simp [bareN]
  | n + 1 => by
    unfold bareN
    by_cases h : f n = 255
    · rw [if_pos h, bareN_zero f n]
      constructor
      · intro k i hi
        rcases Nat.lt_succ_iff_lt_or_eq.1 hi with h1 | rfl
        · exact k i h1
        · exact h
      · intro k i hi
        exact k i (by omega)
    · rw [if_neg h]
      constructor
      · intro k; omega
      · intro k; exact absurd (k n (by omega)) h
theorem bareN_all (f : Nat → UInt8) : ∀ n i, bareN f n ≤ i → i < n → f i = 255
  | 0, i, _, h => by omega
  | n + 1, i, h1, h2 => by
    unfold bareN at h1
    by_cases h : f n = 255
    · rw [if_pos h] at h1
      rcases Nat.lt_succ_iff_lt_or_eq.1 h2 with h3 | rfl
      · exact bareN_all f n i h1 h3
      · exact h
    · rw [if_neg h] at h1; omega
theorem bareN_last (f : Nat → UInt8) : ∀ n, bareN f n ≠ 0 → f (bareN f n - 1) ≠ 255
  | 0, h => absurd rfl h
  | n + 1, h => by
    unfold bareN at h ⊢
    by_cases k : f n = 255
    · rw [if_pos k] at h ⊢
      exact bareN_last f n h
    · rw [if_neg k]; simpa using k
/-- it is n where all from n on are bare and the one ahead isn't -/
theorem bareN_is (f : Nat → UInt8) (n k : Nat) (hk : k ≤ n) (h1 : ∀ i, k ≤ i → i < n → f i = 255) (h2 : k = 0 ∨ f (k - 1) ≠ 255) : bareN f n = k := by
  rcases Nat.lt_trichotomy (bareN f n) k with h | h | h
  · rcases h2 with h2 | h2
    · omega
    · exact absurd (bareN_all f n (k - 1) (by omega) (by omega)) h2
  · exact h
  · have := bareN_last f n (by omega)
    exact absurd (h1 _ (by omega) (by have := bareN_le f n; omega)) this
theorem bareN_congr (f g : Nat → UInt8) : ∀ n, (∀ i, i < n → f i = g i) → bareN f n = bareN g n
  | 0, _ => rfl
  | n + 1, h => by
    unfold bareN
    rw [h n (by omega), bareN_congr f g n fun i hi => h i (by omega)]

theorem cutP_length (f : Nat → UInt8) (a n : Nat) : (cutP f a n).length = n := by simp [cutP]
theorem cutP_get (f : Nat → UInt8) (a n i : Nat) (h : i < n) : (cutP f a n)[i]? = some (f (a + i)) := by simp [cutP, List.getElem?_range h]
theorem cutP_eq (f : Nat → UInt8) (a : Nat) (l : List UInt8) (h : ∀ i x, l[i]? = some x → f (a + i) = x) : cutP f a l.length = l := by
  apply List.ext_getElem?
  intro i
  by_cases hi : i < l.length
  · rw [cutP_get f a _ i hi, List.getElem?_eq_getElem hi, h i _ (List.getElem?_eq_getElem hi)]
  · rw [List.getElem?_eq_none (by rw [cutP_length]; omega), List.getElem?_eq_none (by omega)]
theorem layP_in (g : Nat → Nat → UInt8) (p a : Nat) (t : List UInt8) (i : Nat) (x : UInt8) (h : t[i]? = some x) : layP g p a t p (a + i) = x := by
  have hi : i < t.length := (List.getElem?_eq_some_iff.1 h).1
  unfold layP
  rw [if_pos ⟨rfl, by omega, by omega⟩, show a + i - a = i by omega, List.getD_eq_getElem?_getD, h]
  rfl
theorem layP_out (g : Nat → Nat → UInt8) (p a : Nat) (t : List UInt8) (q i : Nat) (h : q ≠ p ∨ i < a ∨ a + t.length ≤ i) : layP g p a t q i = g q i := by
  unfold layP
  rw [if_neg (by omega)]
theorem layP_nil (g : Nat → Nat → UInt8) (p a : Nat) : layP g p a [] = g := by
  funext q i
  exact layP_out g p a [] q i (by simp; omega)
theorem part_le (m : Mm) (n : Nat) : m.part n ≤ n := by
  unfold Mm.part
  split
  · exact Nat.le_refl _
  · exact Nat.min_le_right _ _
end Go.Proofs.YtdoljggaoidljaaGreat

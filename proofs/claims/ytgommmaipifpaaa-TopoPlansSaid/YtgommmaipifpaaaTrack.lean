/- Plain mathematics of track: kinds, ends, ways, joints, plans, the way of a train. Nothing here speaks of the program. -/
import Derived.KernelRfl
namespace Go.Proofs.Ytgommmaipifpaaa

structure Sec where
  kind : Int
  oc : Int
  line : Int
structure Jo where
  a : Int
  ae : Int
  b : Int
  be : Int
structure St where
  sec : Int
  inn : Int
  out : Int
instance : Inhabited Sec := ⟨⟨0, 0, 0⟩⟩
instance : Inhabited Jo := ⟨⟨0, 0, 0, 0⟩⟩
instance : Inhabited St := ⟨⟨0, 0, 0⟩⟩

/-- a way through a section: its two ends, its position -/
structure Wy where
  a : Int
  b : Int
  pos : Int
def waysM (k : Int) : List Wy := if k = 0 then [⟨0, 1, 0⟩] else if k = 1 then [⟨0, 1, 1⟩, ⟨0, 2, 2⟩] else if k = 2 then [⟨0, 1, 0⟩, ⟨2, 3, 0⟩] else []
def endsM (k : Int) : Int := if k = 0 then 2 else if k = 1 then 3 else if k = 2 then 4 else 0

/-- the other end of a way -/
def farOk (w : Wy) (i : Int) : Bool := decide (i = w.a) || decide (i = w.b)
def farOut (w : Wy) (i : Int) : Int := if i = w.a then w.b else if i = w.b then w.a else 0
def opn (w : Wy) (p : Int) : Bool := decide (w.pos = 0) || decide (w.pos = p)

def wayOkL : List Wy → Int → Int → Bool
  | [], _, _ => false
  | w :: r, i, p => (farOk w i && opn w p) || wayOkL r i p
def wayOutL : List Wy → Int → Int → Int
  | [], _, _ => 0
  | w :: r, i, p => if (farOk w i && opn w p) = true then farOut w i else wayOutL r i p
def posOkL : List Wy → Int → Int → Bool
  | [], _, _ => false
  | w :: r, i, o => (farOk w i && decide (farOut w i = o)) || posOkL r i o
def posOutL : List Wy → Int → Int → Int
  | [], _, _ => 0
  | w :: r, i, o => if (farOk w i && decide (farOut w i = o)) = true then w.pos else posOutL r i o
def wayOk (k i p : Int) : Bool := wayOkL (waysM k) i p
def wayOut (k i p : Int) : Int := wayOutL (waysM k) i p
def posOk (k i o : Int) : Bool := posOkL (waysM k) i o
def posOut (k i o : Int) : Int := posOutL (waysM k) i o

theorem kind_cases (k : Int) : k = 0 ∨ k = 1 ∨ k = 2 ∨ (k ≠ 0 ∧ k ≠ 1 ∧ k ≠ 2) := by omega
theorem ways_none {k : Int} (h : k ≠ 0 ∧ k ≠ 1 ∧ k ≠ 2) : waysM k = [] := by unfold waysM; rw [if_neg h.1, if_neg h.2.1, if_neg h.2.2]

/-- Ways go both ways round. -/
theorem way_back (k i p : Int) (h : wayOk k i p = true) : wayOk k (wayOut k i p) p = true ∧ wayOut k (wayOut k i p) p = i ∧ wayOut k i p ≠ i ∧ 0 ≤ wayOut k i p ∧ wayOut k i p < endsM k ∧ 0 ≤ i ∧ i < endsM k := by
  rcases kind_cases k with rfl | rfl | rfl | hk
  · simp [wayOk, waysM, wayOkL, farOk, opn] at h
    rcases h with rfl | rfl <;> simp [wayOk, wayOut, waysM, wayOkL, wayOutL, farOk, farOut, opn, endsM]
  · simp [wayOk, waysM, wayOkL, farOk, opn] at h
    rcases h with ⟨rfl | rfl, rfl⟩ | ⟨rfl | rfl, rfl⟩ <;> simp [wayOk, wayOut, waysM, wayOkL, wayOutL, farOk, farOut, opn, endsM]
  · simp [wayOk, waysM, wayOkL, farOk, opn] at h
    rcases h with (rfl | rfl) | rfl | rfl <;> simp [wayOk, wayOut, waysM, wayOkL, wayOutL, farOk, farOut, opn, endsM]
  · rw [wayOk, ways_none hk] at h
    cases h
theorem way_pos (k i p : Int) (h : wayOk k i p = true) : posOk k i (wayOut k i p) = true ∧ (posOut k i (wayOut k i p) = 0 ∨ posOut k i (wayOut k i p) = p) := by
  rcases kind_cases k with rfl | rfl | rfl | hk
  · simp [wayOk, waysM, wayOkL, farOk, opn] at h
    rcases h with rfl | rfl <;> simp [posOk, posOut, wayOut, waysM, posOkL, posOutL, wayOutL, farOk, farOut, opn]
  · simp [wayOk, waysM, wayOkL, farOk, opn] at h
    rcases h with ⟨rfl | rfl, rfl⟩ | ⟨rfl | rfl, rfl⟩ <;> simp [posOk, posOut, wayOut, waysM, posOkL, posOutL, wayOutL, farOk, farOut, opn]
  · simp [wayOk, waysM, wayOkL, farOk, opn] at h
    rcases h with (rfl | rfl) | rfl | rfl <;> simp [posOk, posOut, wayOut, waysM, posOkL, posOutL, wayOutL, farOk, farOut, opn]
  · rw [wayOk, ways_none hk] at h
    cases h
theorem pos_ne (k i o : Int) (h : posOk k i o = true) : i ≠ o := by
  rcases kind_cases k with rfl | rfl | rfl | hk
  · simp [posOk, waysM, posOkL, farOk, farOut] at h
    rcases h with ⟨rfl | rfl, rfl⟩ <;> simp
  · simp [posOk, waysM, posOkL, farOk, farOut] at h
    rcases h with ⟨rfl | rfl, rfl⟩ | ⟨rfl | rfl, rfl⟩ <;> simp
  · simp [posOk, waysM, posOkL, farOk, farOut] at h
    rcases h with ⟨rfl | rfl, rfl⟩ | ⟨rfl | rfl, rfl⟩ <;> simp
  · rw [posOk, ways_none hk] at h
    cases h
theorem way_none_out (k i p : Int) (h : wayOk k i p = false) : wayOut k i p = 0 := by
  unfold wayOk at h
  unfold wayOut
  generalize waysM k = l at h
  induction l with
  | nil => rfl
  | cons w r ih =>
    rw [wayOkL, Bool.or_eq_false_iff] at h
    rw [wayOutL, if_neg (by rw [h.1]; decide)]
    exact ih h.2
/-- just a kind's ends have a way, in one of the three positions -/
theorem way_some (k i : Int) : (wayOk k i 0 || wayOk k i 1 || wayOk k i 2) = (decide (0 ≤ i) && decide (i < endsM k)) := by
  rw [Bool.eq_iff_iff]
  rcases kind_cases k with rfl | rfl | rfl | hk
  · simp [wayOk, waysM, wayOkL, farOk, opn, endsM]; omega
  · simp [wayOk, waysM, wayOkL, farOk, opn, endsM]; omega
  · simp [wayOk, waysM, wayOkL, farOk, opn, endsM]; omega
  · simp [wayOk, ways_none hk, wayOkL, endsM, hk]
theorem way_blind (k i p q : Int) (h : k ≠ 1) : wayOk k i p = wayOk k i q ∧ wayOut k i p = wayOut k i q := by
  rcases kind_cases k with rfl | rfl | rfl | hk
  · simp [wayOk, wayOut, waysM, wayOkL, wayOutL, farOk, farOut, opn]
  · exact absurd rfl h
  · simp [wayOk, wayOut, waysM, wayOkL, wayOutL, farOk, farOut, opn]
  · simp [wayOk, wayOut, ways_none hk, wayOkL, wayOutL]
theorem ends_none {k : Int} : endsM k = 0 ↔ (k ≠ 0 ∧ k ≠ 1 ∧ k ≠ 2) := by
  unfold endsM
  split
  · omega
  · split
    · omega
    · split <;> omega
theorem ends_bd (k : Int) : 0 ≤ endsM k ∧ endsM k ≤ 4 := by
  unfold endsM
  split
  · omega
  · split
    · omega
    · split <;> omega

/-- what meets an end: of the first joint that has it -/
def jA (j : Jo) (s e : Int) : Bool := decide (j.a = s) && decide (j.ae = e)
def jB (j : Jo) (s e : Int) : Bool := decide (j.b = s) && decide (j.be = e)
def nextOk : List Jo → Int → Int → Bool
  | [], _, _ => false
  | j :: r, s, e => (jA j s e || jB j s e) || nextOk r s e
def nextS : List Jo → Int → Int → Int
  | [], _, _ => 0
  | j :: r, s, e => if jA j s e = true then j.b else if jB j s e = true then j.a else nextS r s e
def nextE : List Jo → Int → Int → Int
  | [], _, _ => 0
  | j :: r, s, e => if jA j s e = true then j.be else if jB j s e = true then j.ae else nextE r s e
end Go.Proofs.Ytgommmaipifpaaa

/- Plain mathematics of TeleEach: what stands in a controller's list, marks, sums. -/
import Derived.Test.YtmohefkingnknaaTshape
namespace Go.Proofs.Ytmohefkingnknaa.Te
open Go.RowKit

theorem idx_mem {α : Type} (f : α → Bool) : ∀ (l : List α) (n : Nat) (x : Int), x ∈ idx f n l ↔ ∃ (k : Nat) (h : k < l.length), x = ((n + k : Nat) : Int) ∧ f l[k] = true
  | [], n, x => by simp [idx]
  | y :: l, n, x => by
    have ih := idx_mem f l (n + 1) x
    have e : idx f n (y :: l) = if f y = true then (n : Int) :: idx f (n + 1) l else idx f (n + 1) l := rfl
    rw [e]
    constructor
    · intro h
      by_cases hy : f y = true
      · rw [if_pos hy] at h
        rcases List.mem_cons.1 h with h | h
        · exact ⟨0, by simp, by rw [h]; rfl, hy⟩
        · obtain ⟨k, hk, e1, e2⟩ := ih.1 h
          exact ⟨k + 1, by simpa using hk, by rw [e1]; congr 1; omega, by simpa using e2⟩
      · rw [if_neg hy] at h
        obtain ⟨k, hk, e1, e2⟩ := ih.1 h
        exact ⟨k + 1, by simpa using hk, by rw [e1]; congr 1; omega, by simpa using e2⟩
    · rintro ⟨k, hk, e1, e2⟩
      rcases k with _ | k
      · have hy : f y = true := e2
        rw [if_pos hy, e1]
        exact List.mem_cons_self
      · have hm : x ∈ idx f (n + 1) l := ih.2 ⟨k, by simpa using hk, by rw [e1]; congr 1; omega, by simpa using e2⟩
        split
        · exact List.mem_cons_of_mem _ hm
        · exact hm
theorem idx_nodup {α : Type} (f : α → Bool) : ∀ (l : List α) (n : Nat), (idx f n l).Nodup
  | [], _ => List.nodup_nil
  | y :: l, n => by
    have e : idx f n (y :: l) = if f y = true then (n : Int) :: idx f (n + 1) l else idx f (n + 1) l := rfl
    rw [e]
    split
    · refine List.nodup_cons.2 ⟨fun h => ?_, idx_nodup f l _⟩
      obtain ⟨k, _, e1, _⟩ := (idx_mem f l (n + 1) _).1 h
      omega
    · exact idx_nodup f l _

/-- one, if a controller ahead of j has it -/
def cnt (oc : Int) (j : Nat) : Int := if 0 ≤ oc ∧ oc < (j : Int) then 1 else 0
def seenL (l : List Sec) (j : Nat) (L : List Int) : List Int := (List.range l.length).map fun s => cnt (l.getD s default).oc j + if ((s : Nat) : Int) ∈ L then 1 else 0
theorem seen_len (l : List Sec) (j : Nat) (L : List Int) : (seenL l j L).length = l.length := by simp [seenL]
theorem seen_at {l : List Sec} (j : Nat) (L : List Int) {s : Nat} (h : s < l.length) : (seenL l j L)[s]? = some (cnt l[s].oc j + if ((s : Nat) : Int) ∈ L then 1 else 0) := by
  unfold seenL
  rw [List.getElem?_map, List.getElem?_range h]
  simp [List.getD_eq_getElem?_getD, List.getElem?_eq_getElem h]
theorem seen_zero (l : List Sec) : seenL l 0 [] = List.replicate l.length 0 := by
  apply List.ext_getElem?
  intro s
  by_cases h : s < l.length
  · rw [seen_at 0 [] h, List.getElem?_replicate, if_pos h]
    unfold cnt
    rw [if_neg (by omega)]
    simp
  · rw [List.getElem?_eq_none (by rw [seen_len]; omega), List.getElem?_eq_none (by simp; omega)]
theorem seen_set {l : List Sec} {j : Nat} {L : List Int} {k : Nat} (h : k < l.length) (ho : l[k].oc = (j : Int)) : (seenL l j L).set k 1 = seenL l j (L ++ [((k : Nat) : Int)]) := by
  apply List.ext_getElem?
  intro s
  rw [List.getElem?_set]
  by_cases hs : k = s
  · subst hs
    rw [if_pos rfl, if_pos (by rw [seen_len]; exact h), seen_at j _ h]
    unfold cnt
    rw [if_neg (by omega), if_pos (by simp)]
    rfl
  · rw [if_neg hs]
    by_cases hl : s < l.length
    · rw [seen_at j _ hl, seen_at j _ hl]
      have : (((s : Nat) : Int) ∈ L ++ [((k : Nat) : Int)]) ↔ ((s : Nat) : Int) ∈ L := by
        rw [List.mem_append, List.mem_singleton]
        constructor
        · rintro (h | h)
          · exact h
          · omega
        · exact .inl
      simp only [this]
    · rw [List.getElem?_eq_none (by rw [seen_len]; omega), List.getElem?_eq_none (by rw [seen_len]; omega)]
theorem seen_here {l : List Sec} {j : Nat} {L : List Int} {k : Nat} (h : k < l.length) (ho : l[k].oc = (j : Int)) (hn : ((k : Nat) : Int) ∉ L) : (seenL l j L)[k]? = some 0 := by
  rw [seen_at j L h, if_neg hn]
  unfold cnt
  rw [if_neg (by omega)]
  rfl
theorem seen_next (l : List Sec) (j : Nat) : seenL l j (idx (inB (j : Int)) 0 l) = seenL l (j + 1) [] := by
  apply List.ext_getElem?
  intro s
  by_cases h : s < l.length
  · rw [seen_at j _ h, seen_at (j + 1) _ h]
    have hm : ((s : Nat) : Int) ∈ idx (inB (j : Int)) 0 l ↔ l[s].oc = (j : Int) := by
      rw [idx_mem]
      constructor
      · rintro ⟨k, hk, e1, e2⟩
        have : k = s := by omega
        subst this
        simpa [inB] using e2
      · intro e
        exact ⟨s, h, by omega, by simpa [inB] using e⟩
    unfold cnt
    by_cases e : l[s].oc = (j : Int)
    · rw [if_pos (hm.2 e), if_neg (by omega), if_pos (by omega)]
      simp
    · rw [if_neg (fun k => e (hm.1 k))]
      by_cases g : 0 ≤ l[s].oc ∧ l[s].oc < (j : Int)
      · rw [if_pos g, if_pos (by omega)]
        simp
      · rw [if_neg g, if_neg (by omega)]
        simp
  · rw [List.getElem?_eq_none (by rw [seen_len]; omega), List.getElem?_eq_none (by rw [seen_len]; omega)]

def sumN (f : Nat → Nat) : Nat → Nat
  | 0 => 0
  | j + 1 => sumN f j + f j
theorem sumN_le {f : Nat → Nat} {b : Nat} (h : ∀ k, f k ≤ b) : ∀ j, sumN f j ≤ j * b
  | 0 => by simp [sumN]
  | j + 1 => by
    have := sumN_le h j
    have := h j
    rw [sumN, Nat.add_mul]
    omega
theorem sum_four {α : Type} (o : α → Int) (f : α → Bool) (g : Nat → α → Bool) (l : List α) (hg : ∀ (k : Nat) x, g k x = (decide (o x = (k : Int)) && f x)) : sumN (fun k => (idx (g k) 0 l).length) 4 = (l.filter fun x => (decide (0 ≤ o x) && decide (o x < 4)) && f x).length := by
  rw [← four o f l]
  simp only [sumN, idx_len]
  have e : ∀ k : Nat, g k = fun x => decide (o x = (k : Int)) && f x := fun k => funext (hg k)
  rw [e 0, e 1, e 2, e 3]
  simp
theorem sum_le {α : Type} (o : α → Int) (f : α → Bool) (g : Nat → α → Bool) (l : List α) (hg : ∀ (k : Nat) x, g k x = (decide (o x = (k : Int)) && f x)) : sumN (fun k => (idx (g k) 0 l).length) 4 ≤ l.length := by
  rw [sum_four o f g l hg]
  exact List.length_filter_le _ _
/-- the controller of a section that there is -/
def ocAt (l : List Sec) (n : Int) : Int := match l[n.toNat]? with | some s => s.oc | none => -1
def thereB (l : List Sec) (n : Int) : Bool := decide (0 ≤ n) && (l[n.toNat]?).isSome
theorem has_split (l : List Sec) (k : Nat) (n : Int) : hasB l (k : Int) n = (decide (ocAt l n = (k : Int)) && thereB l n) := by
  unfold hasB ocAt thereB
  cases l[n.toNat]? with
  | none => simp
  | some s =>
    simp only [Option.isSome_some, Bool.and_true]
    rw [Bool.and_comm]
/-- how many of the first so many sections are points of the controllers 0 to 3 -/
def wantB (s : Sec) : Bool := (decide (0 ≤ s.oc) && decide (s.oc < 4)) && decide (s.kind = 1)
end Go.Proofs.Ytmohefkingnknaa.Te

/- Plain: which sheets are found on the pages of a journal, and what stands in them. Nothing here speaks of the program. -/
import Derived.Test.YtdoljggaoidljaaGreatState
namespace Go.Proofs.YtdoljggaoidljaaGreat.Jo

/-- what is found on one page -/
def one (pg : Nat → Nat → UInt8) (p : Nat) : List (Sh × Nat) := match readSh (cutP (pg p) 0 4096) with
  | none => []
  | some x => if x.1.nth % 24 = p then [x] else []
/-- what is found on the first pages -/
def found (pg : Nat → Nat → UInt8) : Nat → List (Sh × Nat)
  | 0 => []
  | p + 1 => found pg p ++ one pg p
/-- a sheet as it is found -/
def asF (L : Nat → Sh) (i : Nat) : Sh × Nat := (L i, (L i).body.length)

theorem one_garb {pg : Nat → Nat → UInt8} {p : Nat} (h : Garb (pg p)) : one pg p = [] := by
  unfold one
  unfold Garb at h
  rw [h]
theorem one_page {pg : Nat → Nat → UInt8} {p : Nat} {L : Nat → Sh} {i : Nat} {tl : List UInt8} (h : PageOf (pg p) (L i) tl) (hn : (L i).nth = i) (hp : i % 24 = p) : one pg p = [asF L i] := by
  unfold one
  rw [h.read]
  show (if (L i).nth % 24 = p then [(L i, (L i).body.length)] else []) = _
  rw [hn, if_pos hp]
  rfl
theorem range_snoc (s n : Nat) : List.range' s (n + 1) = List.range' s n ++ [s + n] := by
  rw [List.range'_concat, Nat.one_mul]
theorem found_perm {pg : Nat → Nat → UInt8} {all : List Rc} {c : Nat} {L : Nat → Sh} (h : St pg all c L) : ∃ k, k ≤ c ∧ c ≤ k + 24 ∧ (k = 0 ∨ k + 23 ≤ c) ∧ (found pg 24).Perm ((List.range' k (c - k)).map (asF L)) := by
  by_cases hc : c < 24
  · have key : ∀ p, p ≤ 24 → found pg p = (List.range' 0 (min p c)).map (asF L) := by
      intro p
      induction p with
      | zero => intro _; rw [Nat.zero_min]; rfl
      | succ p ih =>
        intro hp
        show found pg p ++ one pg p = _
        rw [ih (by omega)]
        by_cases hpc : p < c
        · obtain ⟨tl, ht⟩ := h.page p hpc (by omega)
          rw [show p % 24 = p by omega] at ht
          rw [one_page ht (h.nth p hpc) (by omega), show min (p + 1) c = p + 1 by omega, show min p c = p by omega, range_snoc, List.map_append, Nat.zero_add]
          rfl
        · rw [one_garb (h.fresh p (by omega) (by omega)), List.append_nil, show min (p + 1) c = c by omega, show min p c = c by omega]
    refine ⟨0, Nat.zero_le _, by omega, .inl rfl, ?_⟩
    rw [key 24 (Nat.le_refl _), show min 24 c = c by omega, Nat.sub_zero]
  · obtain ⟨q, r, hq, hr, h24, hq1⟩ : ∃ q r, c = q + r ∧ r < 24 ∧ q % 24 = 0 ∧ 24 ≤ q := ⟨24 * (c / 24), c % 24, by omega, by omega, by omega, by omega⟩
    have A : ∀ p, p ≤ r → found pg p = (List.range' q p).map (asF L) := by
      intro p
      induction p with
      | zero => intro _; rfl
      | succ p ih =>
        intro hp
        obtain ⟨tl, ht⟩ := h.page (q + p) (by omega) (by omega)
        rw [show (q + p) % 24 = p by omega] at ht
        show found pg p ++ one pg p = _
        rw [ih (by omega), one_page ht (h.nth (q + p) (by omega)) (by omega), range_snoc, List.map_append]
        rfl
    obtain ⟨k, hk, hE⟩ : ∃ k, (k = c - 24 ∨ k = c - 23) ∧ one pg r = (List.range' k (c - 23 - k)).map (asF L) := by
      have he : (c - 24) % 24 = r := by omega
      rcases h.elder (c - 24) (by omega) with ⟨tl, ht⟩ | ⟨hg, _⟩
      · rw [he] at ht
        refine ⟨c - 24, .inl rfl, ?_⟩
        rw [one_page ht (h.nth (c - 24) (by omega)) he, show c - 23 - (c - 24) = 1 by omega]
        rfl
      · rw [he] at hg
        refine ⟨c - 23, .inr rfl, ?_⟩
        rw [one_garb hg, Nat.sub_self]
        rfl
    have B : ∀ j, r + 1 + j ≤ 24 → found pg (r + 1 + j) = (List.range' q r).map (asF L) ++ (List.range' k (c - 23 - k + j)).map (asF L) := by
      intro j
      induction j with
      | zero =>
        intro _
        show found pg r ++ one pg r = _
        rw [A r (Nat.le_refl _), hE, Nat.add_zero]
      | succ j ih =>
        intro hj
        obtain ⟨tl, ht⟩ := h.page (c - 23 + j) (by omega) (by omega)
        have hm : (c - 23 + j) % 24 = r + 1 + j := by omega
        rw [hm] at ht
        show found pg (r + 1 + j) ++ one pg (r + 1 + j) = _
        rw [ih (by omega), one_page ht (h.nth (c - 23 + j) (by omega)) hm, List.append_assoc, ← Nat.add_assoc, range_snoc, List.map_append, show k + (c - 23 - k + j) = c - 23 + j by omega]
        rfl
    refine ⟨k, by omega, by omega, by omega, ?_⟩
    have hf := B (23 - r) (by omega)
    rw [show r + 1 + (23 - r) = 24 by omega] at hf
    rw [hf]
    refine List.perm_append_comm.trans ?_
    rw [← List.map_append, show q = k + (c - 23 - k + (23 - r)) by omega, List.range'_append_1, show c - 23 - k + (23 - r) + r = c - k by omega]
/-- two rows of the same things, sorted by unlike numbers, are the same -/
theorem eq_of_sorted {α : Type} (key : α → Nat) : ∀ (l k : List α), l.Perm k → k.Pairwise (fun a b => key a < key b) → l.Pairwise (fun a b => key a ≤ key b) → l = k
  | l, [], h, _, _ => h.eq_nil
  | [], b :: t, h, _, _ => by have := h.length_eq; simp at this
  | a :: s, b :: t, h, hk, hl => by
    rw [List.pairwise_cons] at hk hl
    have hab : a = b := by
      rcases List.mem_cons.1 (h.mem_iff.1 (List.mem_cons_self)) with e | ha
      · exact e
      · rcases List.mem_cons.1 (h.mem_iff.2 (List.mem_cons_self (a := b) (l := t))) with e | hb
        · exact e.symm
        · have h1 := hk.1 a ha
          have h2 := hl.1 b hb
          omega
    subst hab
    rw [eq_of_sorted key s t ((List.perm_cons a).1 h) hk.2 hl.2]
theorem asF_sorted {pg : Nat → Nat → UInt8} {all : List Rc} {c : Nat} {L : Nat → Sh} (h : St pg all c L) (k : Nat) : ∀ n s, s + n ≤ c → ((List.range' s n).map (asF L)).Pairwise (fun a b => a.1.nth < b.1.nth)
  | 0, _, _ => List.Pairwise.nil
  | n + 1, s, hs => by
    rw [List.range'_succ, List.map_cons, List.pairwise_cons]
    refine ⟨fun x hx => ?_, asF_sorted h k n (s + 1) (by omega)⟩
    obtain ⟨i, hi, rfl⟩ := List.mem_map.1 hx
    rw [List.mem_range'_1] at hi
    show (L s).nth < (L i).nth
    rw [h.nth s (by omega), h.nth i (by omega)]
    omega
/-- the records of the sheets from the k-th on -/
theorem upto_split (L : Nat → Sh) (k : Nat) : ∀ n, upto L (k + n) = upto L k ++ ((List.range' k n).map fun i => (L i).recs).flatten
  | 0 => by simp
  | n + 1 => by
    show upto L (k + n) ++ (L (k + n)).recs = _
    rw [upto_split L k n, range_snoc, List.map_append, List.flatten_append, List.append_assoc]
    simp
theorem many_recs (L : Nat → Sh) (k : Nat) : ∀ n, (∀ i, k ≤ i → i < k + n → (L i).recs ≠ []) → n ≤ (((List.range' k n).map fun i => (L i).recs).flatten).length
  | 0, _ => Nat.zero_le _
  | n + 1, h => by
    have h1 := many_recs L k n fun i h1 h2 => h i h1 (by omega)
    have h2 : 0 < (L (k + n)).recs.length := List.length_pos_iff.2 (h (k + n) (by omega) (by omega))
    rw [range_snoc, List.map_append, List.flatten_append, List.length_append]
    simp only [List.map_cons, List.map_nil, List.flatten_cons, List.flatten_nil, List.append_nil]
    omega
end Go.Proofs.YtdoljggaoidljaaGreat.Jo

/- What is read of a payload, part by part, is what the document says. -/
import Derived.Test.YtmohefkingnknaaTread
namespace Go.Proofs.Ytmohefkingnknaa.Te

theorem byL_cutL (t : List UInt8) (a n : Nat) : byL (cutL t a n) = (t.drop a).take n := byL_inL _
theorem step_drop (t : List UInt8) (a n : Nat) : (t.drop a).take n ++ t.drop (a + n) = t.drop a := by
  have := List.take_append_drop n (t.drop a)
  rwa [List.drop_drop] at this
theorem last_take (t : List UInt8) (a n : Nat) (h : t.length = a + n) : (t.drop a).take n = t.drop a := List.take_of_length_le (by rw [List.length_drop]; omega)
theorem head_cons {t : List UInt8} {k : UInt8} (h : t.head? = some k) : t = k :: t.drop 1 := by
  cases t with
  | nil => cases h
  | cons x r =>
    simp at h
    subst h
    rfl
def nilSta : Sta := ⟨⟨none, [], 0⟩, ⟨none, [], 0⟩, ⟨none, [], 0⟩, ⟨none, [], 0⟩⟩
def nilOds : Ods := ⟨⟨none, [], 0⟩, ⟨none, [], 0⟩, ⟨none, [], 0⟩⟩
theorem readB_st (h : Hs) (b : Nat) (x : Sta) (t : List UInt8) : readB 1 (stPs h b x) t = true ↔ t.length = 1 + h.s + h.p + h.c + h.g ∧ t.head? = some 1 ∧ (St.cut h t).ok h = true := by
  have e : goodC t 1 (stPs h b x) = (St.cut h t).ok h := by
    show (okL _ _ _ && (okL _ _ _ && (okL _ _ _ && (okL _ _ _ && true)))) = _
    rw [Bool.and_true]
    rfl
  have w : widthP (stPs h b x) = 1 + h.s + h.p + h.c + h.g := rfl
  unfold readB
  rw [e, w]
  simp only [Bool.and_eq_true, decide_eq_true_eq]
theorem readB_or (h : Hs) (b : Nat) (x : Ods) (t : List UInt8) : readB 2 (orPs h b x) t = true ↔ t.length = 1 + h.p + h.g + h.c ∧ t.head? = some 2 ∧ (Or.cut h t).ok h = true := by
  have e : goodC t 1 (orPs h b x) = (Or.cut h t).ok h := by
    show (okL _ _ _ && (okL _ _ _ && (okL _ _ _ && true))) = _
    rw [Bool.and_true]
    rfl
  have w : widthP (orPs h b x) = 1 + h.p + h.g + h.c := rfl
  unfold readB
  rw [e, w]
  simp only [Bool.and_eq_true, decide_eq_true_eq]
theorem cut_bytes_st {h : Hs} {t : List UInt8} (hl : t.length = 1 + h.s + h.p + h.c + h.g) (hh : t.head? = some 1) : (St.cut h t).bytes = t := by
  unfold St.bytes St.cut
  simp only
  rw [byL_cutL, byL_cutL, byL_cutL, byL_cutL, last_take _ _ _ hl, step_drop, step_drop, step_drop]
  exact (head_cons hh).symm
theorem cut_bytes_or {h : Hs} {t : List UInt8} (hl : t.length = 1 + h.p + h.g + h.c) (hh : t.head? = some 2) : (Or.cut h t).bytes = t := by
  unfold Or.bytes Or.cut
  simp only
  rw [byL_cutL, byL_cutL, byL_cutL, last_take _ _ _ hl, step_drop, step_drop]
  exact (head_cons hh).symm
theorem rst_read (h : Hs) (b : Nat) (x : Sta) (t : List UInt8) : rstL h t = if readB 1 (stPs h b x) t = true then (St.cut h t, 0) else (St.nil, 3) := by
  unfold rstL
  by_cases hB : readB 1 (stPs h b x) t = true
  · obtain ⟨h1, h2, h3⟩ := (readB_st h b x t).1 hB
    rw [if_pos hB, if_pos]
    unfold stL
    rw [if_pos h3, cut_bytes_st h1 h2]
  · rw [if_neg hB, if_neg]
    intro e
    apply hB
    obtain ⟨h1, h2⟩ := st_ok e
    have hr : (rstL h t).2 = 0 := by unfold rstL; rw [if_pos e]
    obtain ⟨h3, h4⟩ := rst_head hr
    exact (readB_st h b x t).2 ⟨h4, h3, h1⟩
theorem ror_read (h : Hs) (b : Nat) (x : Ods) (t : List UInt8) : rorL h t = if readB 2 (orPs h b x) t = true then (Or.cut h t, 0) else (Or.nil, 3) := by
  unfold rorL
  by_cases hB : readB 2 (orPs h b x) t = true
  · obtain ⟨h1, h2, h3⟩ := (readB_or h b x t).1 hB
    rw [if_pos hB, if_pos]
    unfold orL
    rw [if_pos h3, cut_bytes_or h1 h2]
  · rw [if_neg hB, if_neg]
    intro e
    apply hB
    obtain ⟨h1, h2⟩ := or_ok e
    have hr : (rorL h t).2 = 0 := by unfold rorL; rw [if_pos e]
    obtain ⟨h3, h4⟩ := ror_head hr
    exact (readB_or h b x t).2 ⟨h4, h3, h1⟩
end Go.Proofs.Ytmohefkingnknaa.Te

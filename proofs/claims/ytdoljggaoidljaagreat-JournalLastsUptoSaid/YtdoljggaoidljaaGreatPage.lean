/- Plain: a page that holds a sheet, what a burning and an erasing leave of it, and where it is bare. Nothing here speaks of the program. -/
import Derived.Test.YtdoljggaoidljaaGreatSheet
namespace Go.Proofs.YtdoljggaoidljaaGreat.Jo
open Crc

/-- what may be cut off behind a sheet -/
def Tail (tl : List UInt8) : Prop := tl = [] ∨ ∃ b d, b.length ≤ 1024 ∧ 0 < d ∧ d < (fram b).length ∧ tl = (fram b).take d
theorem Tail.nil : Tail [] := .inl rfl
/-- A page that holds a sheet and what was cut off behind it, and else is bare. -/
structure PageOf (f : Nat → UInt8) (s : Sh) (tl : List UInt8) : Prop where
  ok : s.ok
  tail : Tail tl
  len : (s.body ++ tl).length ≤ 4096
  at' : ∀ i, i < 4096 → f i = (s.body ++ tl).getD i 255
/-- a page of which no sheet is read -/
def Garb (f : Nat → UInt8) : Prop := readSh (cutP f 0 4096) = none

theorem cut_is {f : Nat → UInt8} {l : List UInt8} (hl : l.length ≤ 4096) (h : ∀ i, i < 4096 → f i = l.getD i 255) : cutP f 0 4096 = l ++ List.replicate (4096 - l.length) 255 := by
  apply List.ext_getElem?
  intro i
  by_cases hi : i < 4096
  · rw [cutP_get f 0 4096 i hi, Nat.zero_add, h i hi, List.getD_eq_getElem?_getD]
    by_cases hk : i < l.length
    · rw [List.getElem?_append_left hk, List.getElem?_eq_getElem hk]
      rfl
    · rw [List.getElem?_append_right (by omega), List.getElem?_eq_none (by omega), List.getElem?_replicate, if_pos (by omega)]
      rfl
  · rw [List.getElem?_eq_none (by rw [cutP_length]; omega), List.getElem?_eq_none (by rw [List.length_append, List.length_replicate]; omega)]
theorem PageOf.read {f : Nat → UInt8} {s : Sh} {tl : List UInt8} (h : PageOf f s tl) : readSh (cutP f 0 4096) = some (s, s.body.length) := by
  rw [cut_is h.len h.at', List.append_assoc]
  refine readSh_ok h.ok _ ?_
  rcases h.tail with rfl | ⟨b, d, hb, h0, hd, rfl⟩
  · have := whole_cut s.body [] (by simp) 0 (4096 - (s.body ++ []).length) (by rw [fram_length]; omega)
    rw [List.take_zero] at this
    exact this
  · exact whole_cut s.body b hb d _ hd
theorem garb_cut {f : Nat → UInt8} {b : List UInt8} (hb : b.length ≤ 1024) {d : Nat} (hd : d < (fram b).length) (h : ∀ i, i < 4096 → f i = ((fram b).take d).getD i 255) : Garb f := by
  have hl : ((fram b).take d).length ≤ 4096 := by rw [List.length_take, fram_length]; omega
  unfold Garb
  rw [cut_is hl h]
  exact readSh_none (whole_cut [] b hb d _ hd)
theorem garb_bare {f : Nat → UInt8} (h : f 0 = 255) : Garb f := by
  unfold Garb
  refine readSh_none (whole_bare _ ?_)
  rw [cutP_get f 0 4096 0 (by decide), h]

/-- where a page is bare -/
theorem bareN_of {f : Nat → UInt8} {l : List UInt8} (hl : l.length ≤ 4096) (h : ∀ i, i < 4096 → f i = l.getD i 255) : bareN f 4096 ≤ l.length := by
  by_cases hk : bareN f 4096 ≤ l.length
  · exact hk
  · exfalso
    have h1 := bareN_last f 4096 (by omega)
    have h2 := bareN_le f 4096
    apply h1
    rw [h _ (by omega), List.getD_eq_getElem?_getD, List.getElem?_eq_none (by omega)]
    rfl
theorem fram_first (b : List UInt8) (hb : b.length ≤ 1024) (l : List UInt8) : (fram b ++ l).getD 0 255 ≠ 255 := by
  show UInt8.ofNat (b.length / 256) ≠ 255
  intro h
  have := congrArg UInt8.toNat h
  rw [UInt8.toNat_ofNat'] at this
  have h2 : (255 : UInt8).toNat = 255 := rfl
  omega
namespace PageOf
variable {f : Nat → UInt8} {s : Sh} {tl : List UInt8}
theorem bare0 (h : PageOf f s []) : bareN f 4096 ≤ s.body.length := by
  have := bareN_of h.len h.at'
  rwa [List.append_nil] at this
theorem bare1 (h : PageOf f s tl) (ht : tl ≠ []) : s.body.length < bareN f 4096 := by
  rcases h.tail with e | ⟨b, d, hb, h0, hd, e⟩
  · exact absurd e ht
  · by_cases hk : bareN f 4096 ≤ s.body.length
    · exfalso
      have hl := h.len
      rw [List.length_append] at hl
      have hp : 0 < tl.length := List.length_pos_iff.2 ht
      have h1 := bareN_all f 4096 s.body.length hk (by omega)
      rw [h.at' _ (by omega), List.getD_eq_getElem?_getD, List.getElem?_append_right (Nat.le_refl _), Nat.sub_self, ← List.getD_eq_getElem?_getD] at h1
      have h2 := fram_first b hb []
      rw [List.append_nil] at h2
      apply h2
      rw [e] at h1
      rw [List.getD_eq_getElem?_getD] at h1 ⊢
      rwa [List.getElem?_take, if_pos h0] at h1
    · omega
theorem pos (h : PageOf f s tl) : 0 < bareN f 4096 := by
  rcases Nat.eq_zero_or_pos (bareN f 4096) with h0 | h0
  · exfalso
    have h1 := (bareN_zero f 4096).1 h0 0 (by decide)
    rw [h.at' 0 (by decide)] at h1
    obtain ⟨_, _, _, _, _, hb⟩ := head_read h.ok
    unfold Sh.body at h1
    rw [List.append_assoc] at h1
    exact fram_first _ hb _ h1
  · exact h0
end PageOf

/-- bytes laid on a page -/
def lay (f : Nat → UInt8) (a : Nat) (t : List UInt8) : Nat → UInt8 := fun i => if a ≤ i ∧ i < a + t.length then t.getD (i - a) 0 else f i
theorem layP_same (g : Nat → Nat → UInt8) (p a : Nat) (t : List UInt8) : layP g p a t p = lay (g p) a t := by
  funext i
  unfold layP lay
  by_cases h : a ≤ i ∧ i < a + t.length
  · rw [if_pos ⟨rfl, h⟩, if_pos h]
  · rw [if_neg fun k => h k.2, if_neg h]
theorem layP_other (g : Nat → Nat → UInt8) {p q : Nat} (h : q ≠ p) (a : Nat) (t : List UInt8) : layP g p a t q = g q := by
  funext i
  exact layP_out _ _ _ _ _ _ (.inl h)
theorem lay_behind {f : Nat → UInt8} {l : List UInt8} (h : ∀ i, i < 4096 → f i = l.getD i 255) (t : List UInt8) : ∀ i, i < 4096 → lay f l.length t i = (l ++ t).getD i 255 := by
  intro i hi
  unfold lay
  by_cases hk : l.length ≤ i ∧ i < l.length + t.length
  · rw [if_pos hk, List.getD_eq_getElem?_getD, List.getD_eq_getElem?_getD, List.getElem?_append_right hk.1, List.getElem?_eq_getElem (by omega)]
    rfl
  · rw [if_neg hk, h i hi, List.getD_eq_getElem?_getD, List.getD_eq_getElem?_getD]
    by_cases h2 : i < l.length
    · rw [List.getElem?_append_left h2]
    · rw [List.getElem?_append_right (by omega), List.getElem?_eq_none (by omega), List.getElem?_eq_none (by omega)]
theorem lay_nil (f : Nat → UInt8) (a : Nat) : lay f a [] = f := by
  funext i
  unfold lay
  rw [if_neg (by simp)]

/-- a sheet with a record more -/
def Sh.add (s : Sh) (r : Rc) : Sh := { s with recs := s.recs ++ [r] }
theorem Sh.add_body (s : Sh) (r : Rc) : (s.add r).body = s.body ++ fram (recB r) := by
  show fram _ ++ recsB (s.recs ++ [r]) = (fram _ ++ recsB s.recs) ++ _
  rw [recsB_snoc, List.append_assoc]
  rfl
theorem Sh.add_ok {s : Sh} (h : s.ok) {r : Rc} (hr : r.ok) : (s.add r).ok := ⟨h.nth, h.first, h.safe, fun q hq => by
  rcases List.mem_append.1 hq with k | k
  · exact h.recs q k
  · simp only [List.mem_cons, List.not_mem_nil, or_false] at k
    exact k ▸ hr⟩
/-- a record is burnt behind a sheet, or the first bytes of it -/
theorem PageOf.burn {f : Nat → UInt8} {s : Sh} (h : PageOf f s []) {r : Rc} (hr : r.ok) (hl : s.body.length + (fram (recB r)).length ≤ 4096) {d : Nat} (hd : d ≤ (fram (recB r)).length) :
    (d = (fram (recB r)).length ∧ PageOf (lay f s.body.length ((fram (recB r)).take d)) (s.add r) []) ∨ (d < (fram (recB r)).length ∧ ∃ tl, PageOf (lay f s.body.length ((fram (recB r)).take d)) s tl) := by
  have h0 : ∀ i, i < 4096 → f i = s.body.getD i 255 := fun i hi => by rw [h.at' i hi, List.append_nil]
  rcases Nat.lt_or_eq_of_le hd with hd | rfl
  · refine .inr ⟨hd, _, h.ok, ?_, ?_, lay_behind h0 _⟩
    · rcases Nat.eq_zero_or_pos d with h00 | h00
      · exact .inl (by rw [h00, List.take_zero])
      · exact .inr ⟨recB r, d, by rw [recB_length]; have := hr.text; omega, h00, hd, rfl⟩
    · rw [List.length_append, List.length_take]; omega
  · refine .inl ⟨rfl, Sh.add_ok h.ok hr, .nil, ?_, ?_⟩
    · rw [List.append_nil, Sh.add_body, List.length_append]; omega
    · rw [List.take_length, List.append_nil, Sh.add_body]
      exact lay_behind h0 _
/-- a head is burnt on a bare page, or the first bytes of it -/
theorem head_burn {f : Nat → UInt8} (hf : ∀ i, i < 4096 → f i = 255) {s : Sh} (hs : s.ok) (h0 : s.recs = []) {d : Nat} (hd : d ≤ (fram (headB s.nth s.first s.safe)).length) :
    (d = (fram (headB s.nth s.first s.safe)).length ∧ PageOf (lay f 0 ((fram (headB s.nth s.first s.safe)).take d)) s []) ∨ (d < (fram (headB s.nth s.first s.safe)).length ∧ Garb (lay f 0 ((fram (headB s.nth s.first s.safe)).take d))) := by
  obtain ⟨_, _, _, _, _, hb⟩ := head_read hs
  have h1 : ∀ i, i < 4096 → f i = ([] : List UInt8).getD i 255 := fun i hi => by rw [hf i hi]; rfl
  have h2 := lay_behind h1 ((fram (headB s.nth s.first s.safe)).take d)
  rw [List.length_nil, List.nil_append] at h2
  rcases Nat.lt_or_eq_of_le hd with hd | rfl
  · exact .inr ⟨hd, garb_cut hb hd h2⟩
  · have e : s.body = fram (headB s.nth s.first s.safe) := by unfold Sh.body; rw [h0, recsB_nil, List.append_nil]
    refine .inl ⟨rfl, hs, .nil, ?_, ?_⟩
    · rw [List.append_nil, e, fram_length]; omega
    · rw [List.append_nil, e]
      rw [List.take_length] at h2 ⊢
      exact h2
/-- a page is erased, or the first bytes of it -/
theorem erase_part (f : Nat → UInt8) (d : Nat) (hd : d ≤ 4096) : (d = 0 ∧ lay f 0 (List.replicate d 255) = f) ∨ (0 < d ∧ Garb (lay f 0 (List.replicate d 255)) ∧ (d = 4096 → ∀ i, i < 4096 → lay f 0 (List.replicate d 255) i = 255)) := by
  rcases Nat.eq_zero_or_pos d with rfl | h0
  · exact .inl ⟨rfl, lay_nil f 0⟩
  · have h : ∀ i, i < d → lay f 0 (List.replicate d 255) i = 255 := fun i hi => by
      unfold lay
      rw [if_pos (by rw [List.length_replicate]; omega), List.getD_eq_getElem?_getD, List.getElem?_replicate, if_pos (by omega)]
      rfl
    exact .inr ⟨h0, garb_bare (h 0 h0), fun e i hi => h i (by omega)⟩
end Go.Proofs.YtdoljggaoidljaaGreat.Jo

/- Plain: what a page of a journal is and what is read of it. Nothing here speaks of the program. -/
import Derived.Test.YtdoljggaoidljaaGreatCell
import Derived.Test.YtdoljggaoidljaaGreatFrame
namespace Go.Proofs.YtdoljggaoidljaaGreat.Jo
open Crc

/-- what stands with its mark at a place: the body, and the place behind -/
def whole (t : List UInt8) (a : Nat) : Option (List UInt8 × Nat) :=
  if a ≤ t.length ∧ (headL (t.drop a)).2.2 = 0 ∧ t[a + (headL (t.drop a)).2.1]? = some 0 then some ((headL (t.drop a)).1, a + (headL (t.drop a)).2.1 + 1) else none
/-- a record but for its number -/
structure Rc where
  kind : Int
  text : List UInt8
structure Rc.ok (r : Rc) : Prop where
  kind : r.kind = 1 ∨ r.kind = 2
  text : r.text.length ≤ 1000
def kindOf : List UInt8 → Int
  | [] => 0
  | k :: _ => (k.toNat : Int)
/-- the records from a place on, and the place behind them -/
def recs (t : List UInt8) : Nat → Nat → List Rc × Nat
  | 0, a => ([], a)
  | f + 1, a => match whole t a with
    | none => ([], a)
    | some (b, e) => if (kindOf b = 1 ∨ kindOf b = 2) ∧ (b.drop 1).length ≤ 1000 then (⟨kindOf b, b.drop 1⟩ :: (recs t f e).1, (recs t f e).2) else ([], a)
structure Sh where
  nth : Nat
  first : Nat
  safe : Option (List UInt8)
  recs : List Rc
def num4 (n : Nat) : List UInt8 := [UInt8.ofNat (n / 16777216), UInt8.ofNat (n / 65536), UInt8.ofNat (n / 256), UInt8.ofNat n]
def val4 (l : List UInt8) : Nat := l.foldl (fun n b => n * 256 + b.toNat) 0
theorem val4_num4 (n : Nat) (h : n < 4294967296) : val4 (num4 n) = n := by
  show (((0 * 256 + (UInt8.ofNat (n / 16777216)).toNat) * 256 + (UInt8.ofNat (n / 65536)).toNat) * 256 + (UInt8.ofNat (n / 256)).toNat) * 256 + (UInt8.ofNat n).toNat = n
  rw [UInt8.toNat_ofNat', UInt8.toNat_ofNat', UInt8.toNat_ofNat', UInt8.toNat_ofNat']
  omega
/-- the sheet that a page's bytes are, and the place behind all that it has whole -/
def readSh (t : List UInt8) : Option (Sh × Nat) := match whole t 0 with
  | none => none
  | some (b, e) => if b.length < 9 ∨ 2147483647 < max (val4 (b.take 4)) (val4 ((b.drop 4).take 4)) ∨ val4 ((b.drop 4).take 4) < 1 ∨ 1000 < (b.drop 9).length then none
    else some (⟨val4 (b.take 4), val4 ((b.drop 4).take 4), if kindOf (b.drop 8) = 1 then some (b.drop 9) else none, (recs t t.length e).1⟩, (recs t t.length e).2)

/-- a frame with its mark -/
def fram (b : List UInt8) : List UInt8 := frame b ++ [0]
theorem fram_length (b : List UInt8) : (fram b).length = b.length + 7 := by simp [fram, frame_length]
def headB (n f : Nat) (s : Option (List UInt8)) : List UInt8 := num4 n ++ (num4 f ++ (match s with | none => [0] | some t => 1 :: t))
def recB (r : Rc) : List UInt8 := UInt8.ofNat r.kind.toNat :: r.text
theorem recB_length (r : Rc) : (recB r).length = r.text.length + 1 := rfl
theorem headB_length (n f : Nat) (s : Option (List UInt8)) : (headB n f s).length = 9 + (s.getD []).length := by
  cases s <;> simp [headB, num4] <;> omega
def recsB (l : List Rc) : List UInt8 := (l.map fun r => fram (recB r)).flatten
theorem recsB_nil : recsB [] = [] := rfl
theorem recsB_cons (r : Rc) (l : List Rc) : recsB (r :: l) = fram (recB r) ++ recsB l := rfl
theorem recsB_snoc (l : List Rc) (r : Rc) : recsB (l ++ [r]) = recsB l ++ fram (recB r) := by simp [recsB]
/-- what a sheet is on its page -/
def Sh.body (s : Sh) : List UInt8 := fram (headB s.nth s.first s.safe) ++ recsB s.recs
structure Sh.ok (s : Sh) : Prop where
  nth : s.nth ≤ 2147483647
  first : 1 ≤ s.first ∧ s.first ≤ 2147483647
  safe : ∀ t, s.safe = some t → t.length ≤ 1000
  recs : ∀ r ∈ s.recs, r.ok

theorem head_at (x b y : List UInt8) (hb : b.length ≤ 1024) : headL ((x ++ (fram b ++ y)).drop x.length) = (b, b.length + 6, 0) := by
  rw [List.drop_left]
  unfold fram
  rw [List.append_assoc]
  exact head_frame b _ hb
theorem whole_fram (x b y : List UInt8) (hb : b.length ≤ 1024) : whole (x ++ (fram b ++ y)) x.length = some (b, x.length + (b.length + 7)) := by
  unfold whole
  have h0 : (x ++ (fram b ++ y))[x.length + (b.length + 6)]? = some 0 := by
    rw [List.getElem?_append_right (by omega), show x.length + (b.length + 6) - x.length = b.length + 6 by omega]
    unfold fram
    rw [List.append_assoc, List.getElem?_append_right (by rw [frame_length]; omega), frame_length, Nat.sub_self]
    rfl
  simp only [head_at x b y hb]
  rw [if_pos ⟨by simp, trivial, h0⟩]
  rfl
theorem mem_rep {m k d : Nat} {z : List UInt8} (hz : z.length = d) (hk : d ≤ k) : ¬ (z ++ List.replicate m (255 : UInt8))[k]? = some 0 := by
  rw [List.getElem?_append_right (by omega), List.getElem?_replicate]
  split
  · intro h
    injection h with h
    cases h
  · intro h
    cases h
theorem head_ok {t : List UInt8} (h : (headL t).2.2 = 0) : 6 ≤ t.length ∧ told t ≤ 1024 ∧ told t + 6 ≤ t.length ∧ (headL t).2.1 = told t + 6 := by
  unfold headL at h ⊢
  by_cases h1 : t.length < 6
  · rw [if_pos h1] at h; simp at h
  · rw [if_neg h1] at h ⊢
    by_cases h2 : 1024 < told t
    · rw [if_pos h2] at h; simp at h
    · rw [if_neg h2] at h ⊢
      by_cases h3 : t.length < told t + 6
      · rw [if_pos h3] at h; simp at h
      · rw [if_neg h3] at h ⊢
        split at h
        · rename_i h4
          rw [if_pos h4]
          exact ⟨by omega, by omega, by omega, rfl⟩
        · simp at h
/-- a frame that was cut off isn't whole -/
theorem whole_cut (x b : List UInt8) (hb : b.length ≤ 1024) (d m : Nat) (hd : d < (fram b).length) : whole (x ++ ((fram b).take d ++ List.replicate m 255)) x.length = none := by
  unfold whole
  rw [List.drop_left]
  rw [fram_length] at hd
  have hz : ((fram b).take d).length = d := by rw [List.length_take, fram_length]; omega
  have key : ¬ ((headL ((fram b).take d ++ List.replicate m 255)).2.2 = 0 ∧ ((fram b).take d ++ List.replicate m 255)[(headL ((fram b).take d ++ List.replicate m 255)).2.1]? = some 0) := by
    rintro ⟨h1, h2⟩
    obtain ⟨k1, k2, k3, k4⟩ := head_ok h1
    rw [k4] at h2
    refine mem_rep hz ?_ h2
    have e0 : told ((fram b).take d ++ List.replicate m 255) + 6 ≥ d := by
      by_cases h2 : d < 2
      · omega
      · have e : told ((fram b).take d ++ List.replicate m 255) = b.length := by
          rw [told_append (by omega)]
          have h0 := (frame_parts b [0] hb).1
          have e2 := told_append (t := (fram b).take d) (l := (fram b).drop d) (by omega)
          rw [List.take_append_drop] at e2
          exact e2.symm.trans h0
        omega
    exact e0
  rw [if_neg]
  rintro ⟨_, h1, h2⟩
  rw [List.getElem?_append_right (by omega), Nat.add_sub_cancel_left] at h2
  exact key ⟨h1, h2⟩
/-- nor is what begins with a bare byte -/
theorem whole_bare (t : List UInt8) (h : t[0]? = some 255) : whole t 0 = none := by
  unfold whole
  rw [if_neg]
  rintro ⟨_, h1, _⟩
  obtain ⟨k1, k2, _⟩ := head_ok h1
  rw [List.drop_zero] at k1 k2
  obtain ⟨a, b, r, rfl⟩ : ∃ a b r, t = a :: b :: r := by
    rcases t with _ | ⟨a, _ | ⟨b, r⟩⟩
    · simp at k1
    · simp at k1
    · exact ⟨a, b, r, rfl⟩
  have ha : a = 255 := by simpa using h
  have e : told (a :: b :: r) = a.toNat * 256 + b.toNat := rfl
  have h255 : a.toNat = 255 := by rw [ha]; rfl
  omega
theorem kind_rec {r : Rc} (h : r.ok) : kindOf (recB r) = r.kind := by
  show ((UInt8.ofNat r.kind.toNat).toNat : Int) = r.kind
  rcases h.kind with e | e <;> rw [e] <;> rfl
theorem recs_read (t : List UInt8) : ∀ (l : List Rc) (x y : List UInt8) (f : Nat), t = x ++ (recsB l ++ y) → (∀ r ∈ l, r.ok) → l.length ≤ f → whole t (x.length + (recsB l).length) = none → recs t f x.length = (l, x.length + (recsB l).length)
  | [], x, y, f, _, _, _, hn => by
    rw [recsB_nil] at hn ⊢
    simp only [List.length_nil, Nat.add_zero] at hn ⊢
    match f with
    | 0 => rfl
    | f + 1 => unfold recs; rw [hn]
  | r :: l, x, y, 0, _, _, hf, _ => by simp at hf
  | r :: l, x, y, f + 1, ht, hl, hf, hn => by
    have hr := hl r (by simp)
    have h1 : (recB r).length ≤ 1024 := by rw [recB_length]; have := hr.text; omega
    have e1 : t = x ++ (fram (recB r) ++ (recsB l ++ y)) := by rw [ht, recsB_cons, List.append_assoc]
    have e2 : t = (x ++ fram (recB r)) ++ (recsB l ++ y) := by rw [e1, List.append_assoc]
    have w := whole_fram x (recB r) (recsB l ++ y) h1
    rw [← e1] at w
    have hx : (x ++ fram (recB r)).length = x.length + ((recB r).length + 7) := by rw [List.length_append, fram_length]
    have hs : x.length + (recsB (r :: l)).length = (x ++ fram (recB r)).length + (recsB l).length := by rw [recsB_cons, List.length_append, List.length_append]; omega
    have ih := recs_read t l (x ++ fram (recB r)) y f e2 (fun q hq => hl q (List.mem_cons_of_mem _ hq)) (by simpa using hf) (by rw [← hs]; exact hn)
    unfold recs
    rw [w]
    simp only
    rw [kind_rec hr, if_pos ⟨hr.kind, hr.text⟩, ← hx, ih, hs]
    rfl
theorem recsB_len (l : List Rc) : l.length ≤ (recsB l).length := by
  induction l with
  | nil => exact Nat.le_refl _
  | cons r l ih => rw [recsB_cons, List.length_append, fram_length, List.length_cons]; omega
theorem head_read {s : Sh} (h : s.ok) : let b := headB s.nth s.first s.safe; val4 (b.take 4) = s.nth ∧ val4 ((b.drop 4).take 4) = s.first ∧ (if kindOf (b.drop 8) = 1 then some (b.drop 9) else none) = s.safe ∧ (b.drop 9).length ≤ 1000 ∧ 9 ≤ b.length ∧ b.length ≤ 1024 := by
  have h1 : val4 (num4 s.nth) = s.nth := val4_num4 _ (by have := h.nth; omega)
  have h2 : val4 (num4 s.first) = s.first := val4_num4 _ (by have := h.first; omega)
  have h3 := headB_length s.nth s.first s.safe
  have h4 : (s.safe.getD []).length ≤ 1000 := by
    cases hs : s.safe with
    | none => simp
    | some t => exact h.safe t hs
  refine ⟨?_, ?_, ?_, ?_, by omega, by omega⟩
  · have e : (headB s.nth s.first s.safe).take 4 = num4 s.nth := rfl
    rw [e, h1]
  · have e : ((headB s.nth s.first s.safe).drop 4).take 4 = num4 s.first := rfl
    rw [e, h2]
  · cases hs : s.safe <;> rfl
  · rw [List.length_drop]; omega
/-- a page with a sheet, and what is cut off behind it, is read as it is -/
theorem readSh_ok {s : Sh} (h : s.ok) (y : List UInt8) (hn : whole (s.body ++ y) s.body.length = none) : readSh (s.body ++ y) = some (s, s.body.length) := by
  obtain ⟨h1, h2, h3, h4, h5, h6⟩ := head_read h
  have e0 : s.body ++ y = [] ++ (fram (headB s.nth s.first s.safe) ++ (recsB s.recs ++ y)) := by unfold Sh.body; rw [List.append_assoc]; rfl
  have w := whole_fram [] (headB s.nth s.first s.safe) (recsB s.recs ++ y) h6
  rw [← e0, List.length_nil, Nat.zero_add] at w
  have e1 : s.body ++ y = fram (headB s.nth s.first s.safe) ++ (recsB s.recs ++ y) := e0
  have hl : s.body.length = (fram (headB s.nth s.first s.safe)).length + (recsB s.recs).length := by unfold Sh.body; rw [List.length_append]
  have r := recs_read (s.body ++ y) s.recs (fram (headB s.nth s.first s.safe)) y (s.body ++ y).length e1 h.recs (by rw [List.length_append, hl]; have := recsB_len s.recs; omega) (by rw [← hl]; exact hn)
  rw [fram_length] at r
  unfold readSh
  rw [w]
  simp only
  have hf := h.first
  have hnn := h.nth
  rw [if_neg (by rw [h1, h2]; rintro (k | k | k | k) <;> omega), h1, h2, h3, r, ← fram_length, ← hl]
theorem readSh_none {t : List UInt8} (h : whole t 0 = none) : readSh t = none := by unfold readSh; rw [h]
end Go.Proofs.YtdoljggaoidljaaGreat.Jo

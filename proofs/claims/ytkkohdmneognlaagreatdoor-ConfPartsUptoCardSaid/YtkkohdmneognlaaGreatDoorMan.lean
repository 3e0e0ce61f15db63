/- Where a canonical line is cut; a text's lines (plain mathematics). -/
import Derived.Test.YtkkohdmneognlaaGreatDoorMam
import Derived.Lib.Index
import Derived.Lib.IndexMore
import Derived.OrdersIn
import Derived.OrdersHeld
import Derived.Deep.RegionHeld
namespace Go.Proofs.YtkkohdmneognlaaGreatDoor
open Go.RowKit

theorem occ_at {s sub : List UInt8} {i : Nat} (h : Lib.occAt s sub i = true) : ∀ j, j < sub.length → s[i + j]? = sub[j]? := by
  intro j hj
  unfold Lib.occAt at h
  obtain ⟨r, hr⟩ := List.isPrefixOf_iff_prefix.1 h
  rw [← List.getElem?_drop, ← hr, List.getElem?_append_left hj]
theorem cut_of {s sub a b : List UInt8} (hs : s = a ++ (sub ++ b)) (hno : ∀ j, j < a.length → Lib.occAt s sub j = false) : Lib.cut s sub = (a, b, true) := by
  have hi : Lib.index s sub = (a.length : Nat) := by
    refine Lib.index_first ?_ ?_ hno
    · rw [hs, List.length_append]; omega
    · unfold Lib.occAt
      rw [hs, List.drop_left]
      exact List.isPrefixOf_iff_prefix.2 ⟨b, rfl⟩
  unfold Lib.cut
  rw [hi, if_pos (by omega), Int.toNat_natCast]
  have e1 : s.take a.length = a := by rw [hs, List.take_left]
  have e2 : s.drop (a.length + sub.length) = b := by rw [hs, ← List.drop_drop, List.drop_left, List.drop_left]
  rw [e1, e2]
/-- at the first blank -/
theorem cut_blank {w r : List UInt8} (hw : ∀ b ∈ w, b ≠ 32) : Lib.cut (w ++ 32 :: r) [32] = (w, r, true) := by
  refine cut_of (sub := [32]) (by simp) fun j hj => ?_
  cases ho : Lib.occAt (w ++ 32 :: r) [32] j with
  | false => rfl
  | true =>
    have := occ_at ho 0 (by simp)
    rw [Nat.add_zero, List.getElem?_append_left hj, List.getElem?_eq_getElem hj] at this
    simp at this
    exact (hw _ (List.getElem_mem hj) this).elim
/-- at a word's first letter behind a blank, ahead of which that letter does not stand -/
theorem cut_word {a b : List UInt8} {p : UInt8} {q : List UInt8} (hp : p ≠ 32) (ha : ∀ x ∈ a, x ≠ p) : Lib.cut (a ++ ((32 :: p :: q) ++ b)) (32 :: p :: q) = (a, b, true) := by
  refine cut_of rfl fun j hj => ?_
  cases ho : Lib.occAt (a ++ ((32 :: p :: q) ++ b)) (32 :: p :: q) j with
  | false => rfl
  | true =>
    have := occ_at ho 1 (by simp)
    rcases Nat.lt_or_ge (j + 1) a.length with h | h
    · rw [List.getElem?_append_left h, List.getElem?_eq_getElem h] at this
      simp at this
      exact (ha _ (List.getElem_mem h) this).elim
    · have e : j + 1 = a.length := by omega
      rw [e, List.getElem?_append_right (Nat.le_refl _), Nat.sub_self] at this
      simp at this
      exact (hp this.symm).elim
/-- no such cut -/
theorem index_nl : ∀ {l : List UInt8} (r : List UInt8), (∀ b ∈ l, b ≠ 10) → Lib.indexByte (l ++ 10 :: r) 10 = l.length
  | [], r, _ => by
    rw [List.nil_append, Lib.indexByte]
    rfl
  | b :: l, r, h => by
    have ih := index_nl (l := l) r fun x hx => h x (List.mem_cons_of_mem _ hx)
    have hb := h b List.mem_cons_self
    rw [List.cons_append, Lib.indexByte, if_neg (by simpa using hb), ih, if_neg (by simp), List.length_cons]
    omega
/-- a line that ends, and what follows -/
theorem lines_cons (l r : List UInt8) (h : ∀ b ∈ l, b ≠ 10) : linesM (l ++ 10 :: r) = (l ++ [10]) :: linesM r := by
  rw [linesM_cons (i := l.length) (by simp) (index_nl r h)]
  have e1 : (l ++ 10 :: r).take (l.length + 1) = l ++ [10] := by
    rw [show l ++ 10 :: r = (l ++ [10]) ++ r by simp, show l.length + 1 = (l ++ [10]).length by simp, List.take_left]
  have e2 : (l ++ 10 :: r).drop (l.length + 1) = r := by
    rw [show l ++ 10 :: r = (l ++ [10]) ++ r by simp, show l.length + 1 = (l ++ [10]).length by simp, List.drop_left]
  rw [e1, e2]
theorem lines_flat {α : Type} (f : α → List UInt8) : ∀ (xs : List α) (r : List UInt8), (∀ x ∈ xs, ∀ b ∈ f x, b ≠ 10) → linesM (xs.flatMap (fun x => f x ++ [10]) ++ r) = xs.map (fun x => f x ++ [10]) ++ linesM r
  | [], _, _ => rfl
  | x :: xs, r, h => by
    rw [List.flatMap_cons, List.map_cons, List.append_assoc, List.append_assoc, List.singleton_append, lines_cons _ _ (h x List.mem_cons_self), lines_flat f xs r fun y hy => h y (List.mem_cons_of_mem _ hy)]
    rfl
end Go.Proofs.YtkkohdmneognlaaGreatDoor
/- Reading lines, as plain data; a station's text is read as that station (plain mathematics). -/
namespace Go.Proofs.YtkkohdmneognlaaGreatDoor
open Go.RowKit

def numsOf (s : List UInt8) : List Int := (fieldsM s).map numOf
def pathOf : List Int → List St
  | a :: b :: c :: r => ⟨a, b, c⟩ :: pathOf r
  | _ => []
def flankOf : List Int → List Nd
  | a :: b :: r => ⟨a, b⟩ :: flankOf r
  | _ => []
def takeRt (s : List UInt8) (c : Cf) : Cf :=
  let h := Lib.cut s (32 :: wPath)
  let p := Lib.cut h.2.1 (32 :: wFlank)
  let f := Lib.cut p.2.1 (32 :: wOver)
  let n := numsOf h.1
  if n.length ≠ 3 ∨ (numsOf p.1).length % 3 ≠ 0 ∨ (numsOf f.1).length % 2 ≠ 0 then c
  else { c with rts := c.rts ++ [⟨n.getD 0 0, n.getD 1 0, pathOf (numsOf p.1), flankOf (numsOf f.1), numsOf f.2.1, decide (n.getD 2 0 = 1)⟩] }
def takeM (c : Cf) (line : List UInt8) : Cf :=
  let w := Lib.cut line [32]
  if w.1 = wRt then takeRt w.2.1 c else
  let n := numsOf w.2.1
  if w.1 = wSec ∧ n.length = 3 then { c with secs := c.secs ++ [⟨n.getD 0 0, n.getD 1 0, n.getD 2 0⟩] }
  else if w.1 = wJo ∧ n.length = 4 then { c with jos := c.jos ++ [⟨n.getD 0 0, n.getD 1 0, n.getD 2 0, n.getD 3 0⟩] }
  else if w.1 = wSg ∧ n.length = 2 then { c with sigs := c.sigs ++ [⟨n.getD 0 0, n.getD 1 0⟩] }
  else if w.1 = wCr ∧ n.length = 1 then { c with crs := c.crs ++ [n.getD 0 0] }
  else if w.1 = wTm ∧ n.length = 4 then { c with tm := ⟨n.getD 0 0, n.getD 1 0, n.getD 2 0, n.getD 3 0⟩ }
  else c
def cf0 : Cf := ⟨[], [], [], [], [], ⟨0, 0, 0, 0⟩⟩
def readM (s : List UInt8) : Cf := (linesM s).foldl takeM cf0

theorem pathOf_steps : ∀ (p : List St), pathOf (stepsL p) = p
  | [] => rfl
  | x :: r => by
    show pathOf (x.sec :: x.inn :: x.out :: stepsL r) = x :: r
    rw [pathOf, pathOf_steps r]
theorem flankOf_needs : ∀ (p : List Nd), flankOf (needsL p) = p
  | [] => rfl
  | x :: r => by
    show flankOf (x.sec :: x.pos :: needsL r) = x :: r
    rw [flankOf, flankOf_needs r]
theorem row_cut {w : List UInt8} {n : Int} {l : List Int} (hw : ∀ b ∈ w, b ≠ 32) (h : In64 (n :: l)) : Lib.cut (rowM w (n :: l) ++ [10]) [32] = (w, Lib.itoa n ++ (numsM l ++ [10]), true) ∧ numsOf (Lib.itoa n ++ (numsM l ++ [10])) = n :: l := by
  refine ⟨?_, part_nums1 n l [10] (.inr rfl) h⟩
  have e : rowM w (n :: l) ++ [10] = w ++ 32 :: (Lib.itoa n ++ (numsM l ++ [10])) := by
    unfold rowM
    rw [numsM]
    simp
  rw [e, cut_blank hw]
theorem take_sec (c : Cf) (s : Sec) (h : In64 [s.kind, s.oc, s.line]) : takeM c (secT s) = { c with secs := c.secs ++ [s] } := by
  obtain ⟨h1, h2⟩ := row_cut (w := wSec) (by decide) h
  unfold takeM secT
  rw [h1]
  dsimp only
  rw [h2, if_neg (by decide), if_pos ⟨rfl, rfl⟩]
  rfl
theorem take_jo (c : Cf) (s : Jo) (h : In64 [s.a, s.ae, s.b, s.be]) : takeM c (joT s) = { c with jos := c.jos ++ [s] } := by
  obtain ⟨h1, h2⟩ := row_cut (w := wJo) (by decide) h
  unfold takeM joT
  rw [h1]
  dsimp only
  rw [h2, if_neg (by decide), if_neg (fun h => absurd h.1 (by decide)), if_pos ⟨rfl, rfl⟩]
  rfl
theorem take_sg (c : Cf) (s : Sg) (h : In64 [s.sec, s.fin]) : takeM c (sgT s) = { c with sigs := c.sigs ++ [s] } := by
  obtain ⟨h1, h2⟩ := row_cut (w := wSg) (by decide) h
  unfold takeM sgT
  rw [h1]
  dsimp only
  rw [h2, if_neg (by decide), if_neg (fun h => absurd h.1 (by decide)), if_neg (fun h => absurd h.1 (by decide)), if_pos ⟨rfl, rfl⟩]
  rfl
theorem take_cr (c : Cf) (n : Int) (h : In64 [n]) : takeM c (crT n) = { c with crs := c.crs ++ [n] } := by
  obtain ⟨h1, h2⟩ := row_cut (w := wCr) (by decide) h
  unfold takeM crT
  rw [h1]
  dsimp only
  rw [h2, if_neg (by decide), if_neg (fun h => absurd h.1 (by decide)), if_neg (fun h => absurd h.1 (by decide)), if_neg (fun h => absurd h.1 (by decide)), if_pos ⟨rfl, rfl⟩]
  rfl
theorem take_tm (c : Cf) (t : Tm) (h : In64 [t.age, t.brake, t.hold, t.budget]) : takeM c (tmT t) = { c with tm := t } := by
  obtain ⟨h1, h2⟩ := row_cut (w := wTm) (by decide) h
  unfold takeM tmT
  rw [h1]
  dsimp only
  rw [h2, if_neg (by decide), if_neg (fun h => absurd h.1 (by decide)), if_neg (fun h => absurd h.1 (by decide)), if_neg (fun h => absurd h.1 (by decide)), if_neg (fun h => absurd h.1 (by decide)), if_pos ⟨rfl, rfl⟩]
  rfl
/-- what a row of numbers is made of -/
theorem nums_mem : ∀ (l : List Int), ∀ b ∈ numsM l, b = 32 ∨ plainB b ∧ (48 ≤ b.toNat ∧ b.toNat ≤ 57 ∨ b.toNat = 45)
  | [], b, hb => by simp [numsM] at hb
  | n :: r, b, hb => by
    rw [numsM] at hb
    rcases List.mem_append.1 hb with hb | hb
    · rcases List.mem_cons.1 hb with e | hb
      · exact .inl e
      · refine .inr ⟨(itoa_plain n).2 b hb, ?_⟩
        unfold Lib.itoa at hb
        split at hb
        · rcases List.mem_cons.1 hb with e | hb
          · subst e; exact .inr (by decide)
          · exact .inl ((digits_form _).2 b hb)
        · exact .inl ((digits_form _).2 b hb)
    · exact nums_mem r b hb
theorem nums_ne {p : UInt8} (hp : p ≠ 32) (h1 : ¬ (48 ≤ p.toNat ∧ p.toNat ≤ 57)) (h2 : p.toNat ≠ 45) (l : List Int) : ∀ b ∈ numsM l, b ≠ p := fun b hb e => by
  subst e
  rcases nums_mem l b hb with e | ⟨_, e | e⟩
  · exact hp e
  · exact h1 e
  · exact h2 e
theorem take_rt (c : Cf) (r : Rt) (h1 : In64 [r.entry, r.exit]) (h2 : In64 (stepsL r.path)) (h3 : In64 (needsL r.flank)) (h4 : In64 r.over) : takeM c (rtT r) = { c with rts := c.rts ++ [r] } := by
  have hd : In64 [r.entry, r.exit, digitM r.shunt] := by
    intro x hx
    simp only [List.mem_cons, List.not_mem_nil, or_false] at hx
    rcases hx with rfl | rfl | rfl
    · exact h1 _ (by simp)
    · exact h1 _ (by simp)
    · unfold digitM; split <;> omega
  -- the line's parts
  have e0 : rtT r = wRt ++ 32 :: (((Lib.itoa r.entry ++ numsM [r.exit, digitM r.shunt])) ++ ((32 :: wPath) ++ (numsM (stepsL r.path) ++ ((32 :: wFlank) ++ (numsM (needsL r.flank) ++ ((32 :: wOver) ++ (numsM r.over ++ [10]))))))) := by
    unfold rtT rtRows
    simp only [joinM, rowM, numsM, List.append_assoc, List.cons_append, List.nil_append]
  have c0 : Lib.cut (rtT r) [32] = (wRt, ((Lib.itoa r.entry ++ numsM [r.exit, digitM r.shunt])) ++ ((32 :: wPath) ++ (numsM (stepsL r.path) ++ ((32 :: wFlank) ++ (numsM (needsL r.flank) ++ ((32 :: wOver) ++ (numsM r.over ++ [10])))))), true) := by
    rw [e0]
    exact cut_blank (by decide)
  have c1 := cut_word (a := Lib.itoa r.entry ++ numsM [r.exit, digitM r.shunt]) (b := numsM (stepsL r.path) ++ ((32 :: wFlank) ++ (numsM (needsL r.flank) ++ ((32 :: wOver) ++ (numsM r.over ++ [10]))))) (p := 112) (q := [97, 116, 104]) (by decide) (fun x hx => by
    rcases List.mem_append.1 hx with hx | hx
    · have hx : x ∈ numsM [r.entry] := by simp [numsM, hx]
      exact nums_ne (by decide) (by decide) (by decide) _ x hx
    · exact nums_ne (by decide) (by decide) (by decide) _ x hx)
  have c2 := cut_word (a := numsM (stepsL r.path)) (b := numsM (needsL r.flank) ++ ((32 :: wOver) ++ (numsM r.over ++ [10]))) (p := 102) (q := [108, 97, 110, 107]) (by decide) (nums_ne (by decide) (by decide) (by decide) _)
  have c3 := cut_word (a := numsM (needsL r.flank)) (b := numsM r.over ++ [10]) (p := 111) (q := [118, 101, 114, 108, 97, 112]) (by decide) (nums_ne (by decide) (by decide) (by decide) _)
  have n0 : numsOf (Lib.itoa r.entry ++ numsM [r.exit, digitM r.shunt]) = [r.entry, r.exit, digitM r.shunt] := by
    have := part_nums1 r.entry [r.exit, digitM r.shunt] [] (.inl rfl) hd
    rw [List.append_nil] at this
    exact this
  have n1 : numsOf (numsM (stepsL r.path)) = stepsL r.path := by
    have := part_nums (stepsL r.path) [] (.inl rfl) h2
    rw [List.append_nil] at this
    exact this
  have n2 : numsOf (numsM (needsL r.flank)) = needsL r.flank := by
    have := part_nums (needsL r.flank) [] (.inl rfl) h3
    rw [List.append_nil] at this
    exact this
  have n3 : numsOf (numsM r.over ++ [10]) = r.over := part_nums r.over [10] (.inr rfl) h4
  have k1 : Lib.cut ((Lib.itoa r.entry ++ numsM [r.exit, digitM r.shunt]) ++ ((32 :: wPath) ++ (numsM (stepsL r.path) ++ ((32 :: wFlank) ++ (numsM (needsL r.flank) ++ ((32 :: wOver) ++ (numsM r.over ++ [10]))))))) (32 :: wPath) = _ := c1
  have k2 : Lib.cut (numsM (stepsL r.path) ++ ((32 :: wFlank) ++ (numsM (needsL r.flank) ++ ((32 :: wOver) ++ (numsM r.over ++ [10]))))) (32 :: wFlank) = _ := c2
  have k3 : Lib.cut (numsM (needsL r.flank) ++ ((32 :: wOver) ++ (numsM r.over ++ [10]))) (32 :: wOver) = _ := c3
  unfold takeM
  rw [c0]
  dsimp only
  rw [if_pos rfl]
  unfold takeRt
  dsimp only
  rw [k1]
  dsimp only
  rw [k2]
  dsimp only
  rw [k3]
  dsimp only
  rw [n0, n1, n2, n3, stepsL_length, needsL_length, pathOf_steps, flankOf_needs, if_neg (by
    rintro (h | h | h)
    · exact h rfl
    · omega
    · omega)]
  have hs : decide (digitM r.shunt = 1) = r.shunt := by unfold digitM; cases r.shunt <;> rfl
  show { c with rts := c.rts ++ [(⟨r.entry, r.exit, r.path, r.flank, r.over, decide (digitM r.shunt = 1)⟩ : Rt)] } = _
  rw [hs]

/-- all that can be written is read -/
theorem fold_secs : ∀ (l : List Sec) (c : Cf), (∀ s ∈ l, In64 [s.kind, s.oc, s.line]) → (l.map secT).foldl takeM c = { c with secs := c.secs ++ l }
  | [], c, _ => by simp
  | x :: r, c, h => by
    rw [List.map_cons, List.foldl_cons, take_sec c x (h x List.mem_cons_self), fold_secs r _ fun y hy => h y (List.mem_cons_of_mem _ hy)]
    simp
theorem fold_jos : ∀ (l : List Jo) (c : Cf), (∀ s ∈ l, In64 [s.a, s.ae, s.b, s.be]) → (l.map joT).foldl takeM c = { c with jos := c.jos ++ l }
  | [], c, _ => by simp
  | x :: r, c, h => by
    rw [List.map_cons, List.foldl_cons, take_jo c x (h x List.mem_cons_self), fold_jos r _ fun y hy => h y (List.mem_cons_of_mem _ hy)]
    simp
theorem fold_sigs : ∀ (l : List Sg) (c : Cf), (∀ s ∈ l, In64 [s.sec, s.fin]) → (l.map sgT).foldl takeM c = { c with sigs := c.sigs ++ l }
  | [], c, _ => by simp
  | x :: r, c, h => by
    rw [List.map_cons, List.foldl_cons, take_sg c x (h x List.mem_cons_self), fold_sigs r _ fun y hy => h y (List.mem_cons_of_mem _ hy)]
    simp
theorem fold_crs : ∀ (l : List Int) (c : Cf), In64 l → (l.map crT).foldl takeM c = { c with crs := c.crs ++ l }
  | [], c, _ => by simp
  | x :: r, c, h => by
    rw [List.map_cons, List.foldl_cons, take_cr c x (fun y hy => h y (by rw [List.mem_singleton.1 hy]; exact List.mem_cons_self)), fold_crs r _ fun y hy => h y (List.mem_cons_of_mem _ hy)]
    simp
theorem fold_rts : ∀ (l : List Rt) (c : Cf), (∀ r ∈ l, In64 [r.entry, r.exit] ∧ In64 (stepsL r.path) ∧ In64 (needsL r.flank) ∧ In64 r.over) → (l.map rtT).foldl takeM c = { c with rts := c.rts ++ l }
  | [], c, _ => by simp
  | x :: r, c, h => by
    obtain ⟨h1, h2, h3, h4⟩ := h x List.mem_cons_self
    rw [List.map_cons, List.foldl_cons, take_rt c x h1 h2 h3 h4, fold_rts r _ fun y hy => h y (List.mem_cons_of_mem _ hy)]
    simp
end Go.Proofs.YtkkohdmneognlaaGreatDoor
/- A station's text is read as just that station (plain mathematics). -/
namespace Go.Proofs.YtkkohdmneognlaaGreatDoor
open Go.RowKit

theorem row_no10 {w : List UInt8} (hw : ∀ b ∈ w, b ≠ 10) (l : List Int) : ∀ b ∈ rowM w l, b ≠ 10 := fun b hb => by
  unfold rowM at hb
  rcases List.mem_append.1 hb with hb | hb
  · exact hw b hb
  · exact nums_ne (by decide) (by decide) (by decide) l b hb
theorem join_no10 : ∀ (xs : List (List UInt8)), (∀ x ∈ xs, ∀ b ∈ x, b ≠ 10) → ∀ b ∈ joinM xs, b ≠ 10
  | [], _, b, hb => by simp [joinM] at hb
  | [x], h, b, hb => h x List.mem_cons_self b (by simpa [joinM] using hb)
  | x :: y :: r, h, b, hb => by
    rw [joinM] at hb
    rcases List.mem_append.1 hb with hb | hb
    · exact h x List.mem_cons_self b hb
    · rcases List.mem_cons.1 hb with e | hb
      · subst e; decide
      · exact join_no10 (y :: r) (fun z hz => h z (List.mem_cons_of_mem _ hz)) b hb
theorem rt_no10 (r : Rt) : ∀ b ∈ joinM (rtRows r), b ≠ 10 := by
  refine join_no10 _ fun x hx => ?_
  unfold rtRows at hx
  simp only [List.mem_cons, List.not_mem_nil, or_false] at hx
  rcases hx with rfl | rfl | rfl | rfl
  · exact row_no10 (by decide) _
  · exact row_no10 (by decide) _
  · exact row_no10 (by decide) _
  · exact row_no10 (by decide) _
theorem lines_text (c : Cf) : linesM (textM c) = c.secs.map secT ++ (c.jos.map joT ++ (c.sigs.map sgT ++ (c.crs.map crT ++ (c.rts.map rtT ++ [tmT c.tm])))) := by
  unfold textM
  have s1 := lines_flat (fun s : Sec => rowM wSec [s.kind, s.oc, s.line]) c.secs
  have s2 := lines_flat (fun j : Jo => rowM wJo [j.a, j.ae, j.b, j.be]) c.jos
  have s3 := lines_flat (fun s : Sg => rowM wSg [s.sec, s.fin]) c.sigs
  have s4 := lines_flat (fun n : Int => rowM wCr [n]) c.crs
  have s5 := lines_flat (fun r : Rt => joinM (rtRows r)) c.rts
  have e1 : ∀ r, linesM (c.secs.flatMap secT ++ r) = c.secs.map secT ++ linesM r := fun r => s1 r fun _ _ => row_no10 (by decide) _
  have e2 : ∀ r, linesM (c.jos.flatMap joT ++ r) = c.jos.map joT ++ linesM r := fun r => s2 r fun _ _ => row_no10 (by decide) _
  have e3 : ∀ r, linesM (c.sigs.flatMap sgT ++ r) = c.sigs.map sgT ++ linesM r := fun r => s3 r fun _ _ => row_no10 (by decide) _
  have e4 : ∀ r, linesM (c.crs.flatMap crT ++ r) = c.crs.map crT ++ linesM r := fun r => s4 r fun _ _ => row_no10 (by decide) _
  have e5 : ∀ r, linesM (c.rts.flatMap rtT ++ r) = c.rts.map rtT ++ linesM r := fun r => s5 r fun x _ => rt_no10 x
  have e6 : linesM (tmT c.tm) = [tmT c.tm] := lines_cons (rowM wTm [c.tm.age, c.tm.brake, c.tm.hold, c.tm.budget]) [] (row_no10 (by decide) _)
  rw [e1, e2, e3, e4, e5, e6]
theorem read_text (c : Cf) (h : Cf64 c) : readM (textM c) = c := by
  unfold readM
  rw [lines_text]
  simp only [List.foldl_append]
  rw [fold_secs _ _ h.secs, fold_jos _ _ h.jos, fold_sigs _ _ h.sigs, fold_crs _ _ h.crs, fold_rts _ _ h.rts, List.foldl_cons, List.foldl_nil, take_tm _ _ h.tm]
  simp [cf0]
/-- two stations with one text are one -/
theorem textM_inj {c d : Cf} (hc : Cf64 c) (hd : Cf64 d) (h : textM c = textM d) : c = d := by rw [← read_text c hc, h, read_text d hd]
end Go.Proofs.YtkkohdmneognlaaGreatDoor
/- How a configuration that is being put together lies in memory: each list the call's own. -/
namespace Go.Proofs.YtkkohdmneognlaaGreatDoor
open Go.RowKit

def cellsInt (l : List Int) : List Value := l.map (Value.int .i64)
theorem cellsInt_snoc (l : List Int) (v : Int) : cellsInt (l ++ [v]) = cellsInt l ++ [.int .i64 v] := by unfold cellsInt; simp
theorem cellsS_snoc (l : List Sec) (v : Sec) : cellsS (l ++ [v]) = cellsS l ++ [.int .i64 v.kind, .int .i64 v.oc, .int .i64 v.line] := by unfold cellsS; rw [List.flatMap_append]; rfl
theorem cellsJ_snoc (l : List Jo) (v : Jo) : cellsJ (l ++ [v]) = cellsJ l ++ [.int .i64 v.a, .int .i64 v.ae, .int .i64 v.b, .int .i64 v.be] := by unfold cellsJ; rw [List.flatMap_append]; rfl
theorem cellsR_snoc (l : List Ro) (v : Ro) : cellsR (l ++ [v]) = cellsR l ++ v.cells := by unfold cellsR; rw [List.flatMap_append]; simp
structure RtAt (q : Nat) (r : Ro) (w : World) : Prop where
  p : w.ownsRow q 45 3 (.slice r.a1 r.path.length r.c1) r.path.length (cellsT r.path)
  f : w.ownsRow q 67 2 (.slice r.a2 r.flank.length r.c2) r.flank.length (cellsN r.flank)
  o : w.ownsRow q 3 1 (.slice r.a3 r.over.length r.c3) r.over.length (cellsInt r.over)
theorem RtAt.fr {q : Nat} {r : Ro} {w w1 : World} {S : Nat → Prop} (h : RtAt q r w) (f : Fr S w w1) (h1 : ∀ k, blk r.a1 = some k → ¬ S k) (h2 : ∀ k, blk r.a2 = some k → ¬ S k) (h3 : ∀ k, blk r.a3 = some k → ¬ S k) : RtAt q r w1 :=
  ⟨wide_fr h.p f fun k hk => h1 k (by rw [← Row.own r.a1 r.path.length r.c1]; exact hk), wide_fr h.f f fun k hk => h2 k (by rw [← Row.own r.a2 r.flank.length r.c2]; exact hk), wide_fr h.o f fun k hk => h3 k (by rw [← Row.own r.a3 r.over.length r.c3]; exact hk)⟩
structure PlanAt (q pb : Nat) (C : Cm) (w : World) : Prop where
  here : Is w pb 75 C.arr
  lt : pb < q
  hq : q ≤ w.heap.size
  o1 : w.ownsRow q 62 3 (.slice C.A1 C.l.length C.c1) C.l.length (cellsS C.l)
  o2 : w.ownsRow q 69 4 (.slice C.A2 C.js.length C.c2) C.js.length (cellsJ C.js)
  o3 : w.ownsRow q 56 2 (.slice C.A3 C.sg.length C.c3) C.sg.length (cellsG C.sg)
  o4 : w.ownsRow q 3 1 (.slice C.A4 C.cr.length C.c4) C.cr.length (cellsInt C.cr)
  o5 : w.ownsRow q 43 6 (.slice C.A5 C.rs.length C.c5) C.rs.length (cellsR C.rs)
  each : ∀ r ∈ C.rs, RtAt q r w
  sep : ∀ r ∈ C.rs, ∀ k, blk r.a3 = some k → blk C.A4 ≠ some k
theorem PlanAt.fr {q pb : Nat} {C : Cm} {w w1 : World} (h : PlanAt q pb C w) (f : Fr (fun _ => False) w w1) : PlanAt q pb C w1 :=
  { h with here := h.here.fr f id, hq := Nat.le_trans h.hq f.size, o1 := wide_fr h.o1 f fun _ _ => id, o2 := wide_fr h.o2 f fun _ _ => id, o3 := wide_fr h.o3 f fun _ _ => id, o4 := wide_fr h.o4 f fun _ _ => id, o5 := wide_fr h.o5 f fun _ _ => id, each := fun r hr => (h.each r hr).fr f (fun _ _ => id) (fun _ _ => id) fun _ _ => id }
theorem PlanAt.drewN {q pb : Nat} {C : Cm} {w : World} (h : PlanAt q pb C w) (n : Nat) : PlanAt q pb C (w.drewN n) := h.fr ((Fr.refl _ _).drewN n)
theorem PlanAt.add1 {q pb : Nat} {C : Cm} {w w1 : World} (h : PlanAt q pb C w) {A : Option Addr} {c : Nat} (s : Sec) (hown : w1.ownsRow q 62 3 (.slice A (C.l.length + 1) c) (C.l.length + 1) (cellsS (C.l ++ [s])))
    (hg : w.grownBy w1 (Value.slice C.A1 C.l.length C.c1).ownBlock) :
    PlanAt q pb { C with A1 := A, c1 := c, l := C.l ++ [s] } (w1.setCell ⟨pb, 0, none⟩ (.slice A (C.l.length + 1) c)) ∧ Fr (fun k => k = pb ∨ q ≤ k) w (w1.setCell ⟨pb, 0, none⟩ (.slice A (C.l.length + 1) c)) := by
  have e : (C.l ++ [s]).length = C.l.length + 1 := by simp
  have f1 : Fr (fun k => (Value.slice C.A1 C.l.length C.c1).ownBlock = some k) w w1 := (Fr.refl _ w).grown hg fun k hk => .inl hk
  have hnp : (Value.slice C.A1 C.l.length C.c1).ownBlock ≠ some pb := wide_is_ne h.o1 h.here (by decide)
  have here1 : Is w1 pb 75 C.arr := h.here.fr f1 hnp
  have f : Fr (fun k => (Value.slice C.A1 C.l.length C.c1).ownBlock = some k ∨ k = pb) w (w1.setCell ⟨pb, 0, none⟩ (.slice A (C.l.length + 1) c)) := (f1.mono fun _ _ h => .inl h).setCell (.inl (.inr rfl)) _
  have fs : Fr (fun k => k = pb) w1 (w1.setCell ⟨pb, 0, none⟩ (.slice A (C.l.length + 1) c)) := (Fr.refl (fun k => k = pb) w1).setCell (p := ⟨pb, 0, none⟩) (.inl rfl) _
  have hh : Is (w1.setCell ⟨pb, 0, none⟩ (.slice A (C.l.length + 1) c)) pb 75 (C.arr.setIfInBounds 0 (.slice A (C.l.length + 1) c)) := here1.set 0 _
  have hown2 := wide_fr hown fs fun k hk e => wide_is_ne hown here1 (by decide) (e ▸ hk)
  have hr : ∀ r, RtAt q r w → (∀ k, blk r.a3 = some k → blk C.A4 ≠ some k) → RtAt q r (w1.setCell ⟨pb, 0, none⟩ (.slice A (C.l.length + 1) c)) := by
    intro r k hsp
    refine k.fr f ?_ ?_ ?_
    · rintro b hb (e | e)
      · exact wide_ne k.p h.o1 (by decide) b (by rw [Row.own]; exact hb) e
      · subst e; exact wide_is_ne k.p h.here (by decide) (by rw [Row.own]; exact hb)
    · rintro b hb (e | e)
      · exact wide_ne k.f h.o1 (by decide) b (by rw [Row.own]; exact hb) e
      · subst e; exact wide_is_ne k.f h.here (by decide) (by rw [Row.own]; exact hb)
    · rintro b hb (e | e)
      · exact wide_ne k.o h.o1 (by decide) b (by rw [Row.own]; exact hb) e
      · subst e; exact wide_is_ne k.o h.here (by decide) (by rw [Row.own]; exact hb)
  refine ⟨⟨?_, h.lt, Nat.le_trans h.hq f.size, ?_, ?_, ?_, ?_, ?_, ?_, ?_⟩, f.mono ?_⟩
  · have ea : ({ C with A1 := A, c1 := c, l := C.l ++ [s] } : Cm).arr = C.arr.setIfInBounds 0 (.slice A (C.l.length + 1) c) := by unfold Cm.arr; simp
    rw [ea]; exact hh
  · show World.ownsRow _ q 62 3 (.slice A (C.l ++ [s]).length c) (C.l ++ [s]).length _
    rw [e]; exact hown2
  · exact wide_fr h.o2 f fun k hk hS => hS.elim (fun e => wide_ne h.o2 h.o1 (by decide) k hk e) fun e => wide_is_ne h.o2 h.here (by decide) (e ▸ hk)
  · exact wide_fr h.o3 f fun k hk hS => hS.elim (fun e => wide_ne h.o3 h.o1 (by decide) k hk e) fun e => wide_is_ne h.o3 h.here (by decide) (e ▸ hk)
  · exact wide_fr h.o4 f fun k hk hS => hS.elim (fun e => wide_ne h.o4 h.o1 (by decide) k hk e) fun e => wide_is_ne h.o4 h.here (by decide) (e ▸ hk)
  · exact wide_fr h.o5 f fun k hk hS => hS.elim (fun e => wide_ne h.o5 h.o1 (by decide) k hk e) fun e => wide_is_ne h.o5 h.here (by decide) (e ▸ hk)
  · exact fun r k => hr r (h.each r k) (h.sep r k)
  · exact h.sep
  · rintro k hk (e2 | e2)
    · exact .inr (World.ownsRow.lt h.o1 k e2).1
    · exact .inl e2
theorem PlanAt.add2 {q pb : Nat} {C : Cm} {w w1 : World} (h : PlanAt q pb C w) {A : Option Addr} {c : Nat} (s : Jo) (hown : w1.ownsRow q 69 4 (.slice A (C.js.length + 1) c) (C.js.length + 1) (cellsJ (C.js ++ [s])))
    (hg : w.grownBy w1 (Value.slice C.A2 C.js.length C.c2).ownBlock) :
    PlanAt q pb { C with A2 := A, c2 := c, js := C.js ++ [s] } (w1.setCell ⟨pb, 1, none⟩ (.slice A (C.js.length + 1) c)) ∧ Fr (fun k => k = pb ∨ q ≤ k) w (w1.setCell ⟨pb, 1, none⟩ (.slice A (C.js.length + 1) c)) := by
  have e : (C.js ++ [s]).length = C.js.length + 1 := by simp
  have f1 : Fr (fun k => (Value.slice C.A2 C.js.length C.c2).ownBlock = some k) w w1 := (Fr.refl _ w).grown hg fun k hk => .inl hk
  have hnp : (Value.slice C.A2 C.js.length C.c2).ownBlock ≠ some pb := wide_is_ne h.o2 h.here (by decide)
  have here1 : Is w1 pb 75 C.arr := h.here.fr f1 hnp
  have f : Fr (fun k => (Value.slice C.A2 C.js.length C.c2).ownBlock = some k ∨ k = pb) w (w1.setCell ⟨pb, 1, none⟩ (.slice A (C.js.length + 1) c)) := (f1.mono fun _ _ h => .inl h).setCell (.inl (.inr rfl)) _
  have fs : Fr (fun k => k = pb) w1 (w1.setCell ⟨pb, 1, none⟩ (.slice A (C.js.length + 1) c)) := (Fr.refl (fun k => k = pb) w1).setCell (p := ⟨pb, 1, none⟩) (.inl rfl) _
  have hh : Is (w1.setCell ⟨pb, 1, none⟩ (.slice A (C.js.length + 1) c)) pb 75 (C.arr.setIfInBounds 1 (.slice A (C.js.length + 1) c)) := here1.set 1 _
  have hown2 := wide_fr hown fs fun k hk e => wide_is_ne hown here1 (by decide) (e ▸ hk)
  have hr : ∀ r, RtAt q r w → (∀ k, blk r.a3 = some k → blk C.A4 ≠ some k) → RtAt q r (w1.setCell ⟨pb, 1, none⟩ (.slice A (C.js.length + 1) c)) := by
    intro r k hsp
    refine k.fr f ?_ ?_ ?_
    · rintro b hb (e | e)
      · exact wide_ne k.p h.o2 (by decide) b (by rw [Row.own]; exact hb) e
      · subst e; exact wide_is_ne k.p h.here (by decide) (by rw [Row.own]; exact hb)
    · rintro b hb (e | e)
      · exact wide_ne k.f h.o2 (by decide) b (by rw [Row.own]; exact hb) e
      · subst e; exact wide_is_ne k.f h.here (by decide) (by rw [Row.own]; exact hb)
    · rintro b hb (e | e)
      · exact wide_ne k.o h.o2 (by decide) b (by rw [Row.own]; exact hb) e
      · subst e; exact wide_is_ne k.o h.here (by decide) (by rw [Row.own]; exact hb)
  refine ⟨⟨?_, h.lt, Nat.le_trans h.hq f.size, ?_, ?_, ?_, ?_, ?_, ?_, ?_⟩, f.mono ?_⟩
  · have ea : ({ C with A2 := A, c2 := c, js := C.js ++ [s] } : Cm).arr = C.arr.setIfInBounds 1 (.slice A (C.js.length + 1) c) := by unfold Cm.arr; simp
    rw [ea]; exact hh
  · exact wide_fr h.o1 f fun k hk hS => hS.elim (fun e => wide_ne h.o1 h.o2 (by decide) k hk e) fun e => wide_is_ne h.o1 h.here (by decide) (e ▸ hk)
  · show World.ownsRow _ q 69 4 (.slice A (C.js ++ [s]).length c) (C.js ++ [s]).length _
    rw [e]; exact hown2
  · exact wide_fr h.o3 f fun k hk hS => hS.elim (fun e => wide_ne h.o3 h.o2 (by decide) k hk e) fun e => wide_is_ne h.o3 h.here (by decide) (e ▸ hk)
  · exact wide_fr h.o4 f fun k hk hS => hS.elim (fun e => wide_ne h.o4 h.o2 (by decide) k hk e) fun e => wide_is_ne h.o4 h.here (by decide) (e ▸ hk)
  · exact wide_fr h.o5 f fun k hk hS => hS.elim (fun e => wide_ne h.o5 h.o2 (by decide) k hk e) fun e => wide_is_ne h.o5 h.here (by decide) (e ▸ hk)
  · exact fun r k => hr r (h.each r k) (h.sep r k)
  · exact h.sep
  · rintro k hk (e2 | e2)
    · exact .inr (World.ownsRow.lt h.o2 k e2).1
    · exact .inl e2
theorem PlanAt.add3 {q pb : Nat} {C : Cm} {w w1 : World} (h : PlanAt q pb C w) {A : Option Addr} {c : Nat} (s : Sg) (hown : w1.ownsRow q 56 2 (.slice A (C.sg.length + 1) c) (C.sg.length + 1) (cellsG (C.sg ++ [s])))
    (hg : w.grownBy w1 (Value.slice C.A3 C.sg.length C.c3).ownBlock) :
    PlanAt q pb { C with A3 := A, c3 := c, sg := C.sg ++ [s] } (w1.setCell ⟨pb, 2, none⟩ (.slice A (C.sg.length + 1) c)) ∧ Fr (fun k => k = pb ∨ q ≤ k) w (w1.setCell ⟨pb, 2, none⟩ (.slice A (C.sg.length + 1) c)) := by
  have e : (C.sg ++ [s]).length = C.sg.length + 1 := by simp
  have f1 : Fr (fun k => (Value.slice C.A3 C.sg.length C.c3).ownBlock = some k) w w1 := (Fr.refl _ w).grown hg fun k hk => .inl hk
  have hnp : (Value.slice C.A3 C.sg.length C.c3).ownBlock ≠ some pb := wide_is_ne h.o3 h.here (by decide)
  have here1 : Is w1 pb 75 C.arr := h.here.fr f1 hnp
  have f : Fr (fun k => (Value.slice C.A3 C.sg.length C.c3).ownBlock = some k ∨ k = pb) w (w1.setCell ⟨pb, 2, none⟩ (.slice A (C.sg.length + 1) c)) := (f1.mono fun _ _ h => .inl h).setCell (.inl (.inr rfl)) _
  have fs : Fr (fun k => k = pb) w1 (w1.setCell ⟨pb, 2, none⟩ (.slice A (C.sg.length + 1) c)) := (Fr.refl (fun k => k = pb) w1).setCell (p := ⟨pb, 2, none⟩) (.inl rfl) _
  have hh : Is (w1.setCell ⟨pb, 2, none⟩ (.slice A (C.sg.length + 1) c)) pb 75 (C.arr.setIfInBounds 2 (.slice A (C.sg.length + 1) c)) := here1.set 2 _
  have hown2 := wide_fr hown fs fun k hk e => wide_is_ne hown here1 (by decide) (e ▸ hk)
  have hr : ∀ r, RtAt q r w → (∀ k, blk r.a3 = some k → blk C.A4 ≠ some k) → RtAt q r (w1.setCell ⟨pb, 2, none⟩ (.slice A (C.sg.length + 1) c)) := by
    intro r k hsp
    refine k.fr f ?_ ?_ ?_
    · rintro b hb (e | e)
      · exact wide_ne k.p h.o3 (by decide) b (by rw [Row.own]; exact hb) e
      · subst e; exact wide_is_ne k.p h.here (by decide) (by rw [Row.own]; exact hb)
    · rintro b hb (e | e)
      · exact wide_ne k.f h.o3 (by decide) b (by rw [Row.own]; exact hb) e
      · subst e; exact wide_is_ne k.f h.here (by decide) (by rw [Row.own]; exact hb)
    · rintro b hb (e | e)
      · exact wide_ne k.o h.o3 (by decide) b (by rw [Row.own]; exact hb) e
      · subst e; exact wide_is_ne k.o h.here (by decide) (by rw [Row.own]; exact hb)
  refine ⟨⟨?_, h.lt, Nat.le_trans h.hq f.size, ?_, ?_, ?_, ?_, ?_, ?_, ?_⟩, f.mono ?_⟩
  · have ea : ({ C with A3 := A, c3 := c, sg := C.sg ++ [s] } : Cm).arr = C.arr.setIfInBounds 2 (.slice A (C.sg.length + 1) c) := by unfold Cm.arr; simp
    rw [ea]; exact hh
  · exact wide_fr h.o1 f fun k hk hS => hS.elim (fun e => wide_ne h.o1 h.o3 (by decide) k hk e) fun e => wide_is_ne h.o1 h.here (by decide) (e ▸ hk)
  · exact wide_fr h.o2 f fun k hk hS => hS.elim (fun e => wide_ne h.o2 h.o3 (by decide) k hk e) fun e => wide_is_ne h.o2 h.here (by decide) (e ▸ hk)
  · show World.ownsRow _ q 56 2 (.slice A (C.sg ++ [s]).length c) (C.sg ++ [s]).length _
    rw [e]; exact hown2
  · exact wide_fr h.o4 f fun k hk hS => hS.elim (fun e => wide_ne h.o4 h.o3 (by decide) k hk e) fun e => wide_is_ne h.o4 h.here (by decide) (e ▸ hk)
  · exact wide_fr h.o5 f fun k hk hS => hS.elim (fun e => wide_ne h.o5 h.o3 (by decide) k hk e) fun e => wide_is_ne h.o5 h.here (by decide) (e ▸ hk)
  · exact fun r k => hr r (h.each r k) (h.sep r k)
  · exact h.sep
  · rintro k hk (e2 | e2)
    · exact .inr (World.ownsRow.lt h.o3 k e2).1
    · exact .inl e2
theorem PlanAt.add4 {q pb : Nat} {C : Cm} {w w1 : World} (h : PlanAt q pb C w) {A : Option Addr} {c : Nat} (s : Int) (hown : w1.ownsRow q 3 1 (.slice A (C.cr.length + 1) c) (C.cr.length + 1) (cellsInt (C.cr ++ [s])))
    (hg : w.grownBy w1 (Value.slice C.A4 C.cr.length C.c4).ownBlock) (hat : (Value.slice A (C.cr.length + 1) c).ownBlock = (Value.slice C.A4 C.cr.length C.c4).ownBlock ∨ (Value.slice A (C.cr.length + 1) c).ownBlock = some w.heap.size) :
    PlanAt q pb { C with A4 := A, c4 := c, cr := C.cr ++ [s] } (w1.setCell ⟨pb, 3, none⟩ (.slice A (C.cr.length + 1) c)) ∧ Fr (fun k => k = pb ∨ q ≤ k) w (w1.setCell ⟨pb, 3, none⟩ (.slice A (C.cr.length + 1) c)) := by
  have e : (C.cr ++ [s]).length = C.cr.length + 1 := by simp
  have f1 : Fr (fun k => (Value.slice C.A4 C.cr.length C.c4).ownBlock = some k) w w1 := (Fr.refl _ w).grown hg fun k hk => .inl hk
  have hnp : (Value.slice C.A4 C.cr.length C.c4).ownBlock ≠ some pb := wide_is_ne h.o4 h.here (by decide)
  have here1 : Is w1 pb 75 C.arr := h.here.fr f1 hnp
  have f : Fr (fun k => (Value.slice C.A4 C.cr.length C.c4).ownBlock = some k ∨ k = pb) w (w1.setCell ⟨pb, 3, none⟩ (.slice A (C.cr.length + 1) c)) := (f1.mono fun _ _ h => .inl h).setCell (.inl (.inr rfl)) _
  have fs : Fr (fun k => k = pb) w1 (w1.setCell ⟨pb, 3, none⟩ (.slice A (C.cr.length + 1) c)) := (Fr.refl (fun k => k = pb) w1).setCell (p := ⟨pb, 3, none⟩) (.inl rfl) _
  have hh : Is (w1.setCell ⟨pb, 3, none⟩ (.slice A (C.cr.length + 1) c)) pb 75 (C.arr.setIfInBounds 3 (.slice A (C.cr.length + 1) c)) := here1.set 3 _
  have hown2 := wide_fr hown fs fun k hk e => wide_is_ne hown here1 (by decide) (e ▸ hk)
  have hr : ∀ r, RtAt q r w → (∀ k, blk r.a3 = some k → blk C.A4 ≠ some k) → RtAt q r (w1.setCell ⟨pb, 3, none⟩ (.slice A (C.cr.length + 1) c)) := by
    intro r k hsp
    refine k.fr f ?_ ?_ ?_
    · rintro b hb (e | e)
      · exact wide_ne k.p h.o4 (by decide) b (by rw [Row.own]; exact hb) e
      · subst e; exact wide_is_ne k.p h.here (by decide) (by rw [Row.own]; exact hb)
    · rintro b hb (e | e)
      · exact wide_ne k.f h.o4 (by decide) b (by rw [Row.own]; exact hb) e
      · subst e; exact wide_is_ne k.f h.here (by decide) (by rw [Row.own]; exact hb)
    · rintro b hb (e | e)
      · exact hsp b hb (by rw [← Row.own C.A4 C.cr.length C.c4]; exact e)
      · subst e; exact wide_is_ne k.o h.here (by decide) (by rw [Row.own]; exact hb)
  refine ⟨⟨?_, h.lt, Nat.le_trans h.hq f.size, ?_, ?_, ?_, ?_, ?_, ?_, ?_⟩, f.mono ?_⟩
  · have ea : ({ C with A4 := A, c4 := c, cr := C.cr ++ [s] } : Cm).arr = C.arr.setIfInBounds 3 (.slice A (C.cr.length + 1) c) := by unfold Cm.arr; simp
    rw [ea]; exact hh
  · exact wide_fr h.o1 f fun k hk hS => hS.elim (fun e => wide_ne h.o1 h.o4 (by decide) k hk e) fun e => wide_is_ne h.o1 h.here (by decide) (e ▸ hk)
  · exact wide_fr h.o2 f fun k hk hS => hS.elim (fun e => wide_ne h.o2 h.o4 (by decide) k hk e) fun e => wide_is_ne h.o2 h.here (by decide) (e ▸ hk)
  · exact wide_fr h.o3 f fun k hk hS => hS.elim (fun e => wide_ne h.o3 h.o4 (by decide) k hk e) fun e => wide_is_ne h.o3 h.here (by decide) (e ▸ hk)
  · show World.ownsRow _ q 3 1 (.slice A (C.cr ++ [s]).length c) (C.cr ++ [s]).length _
    rw [e]; exact hown2
  · exact wide_fr h.o5 f fun k hk hS => hS.elim (fun e => wide_ne h.o5 h.o4 (by decide) k hk e) fun e => wide_is_ne h.o5 h.here (by decide) (e ▸ hk)
  · exact fun r k => hr r (h.each r k) (h.sep r k)
  · intro r k b hb e2
    rw [← Row.own A (C.cr.length + 1) c] at e2
    rcases hat with e3 | e3
    · exact h.sep r k b hb (by rw [← Row.own C.A4 C.cr.length C.c4, ← e3]; exact e2)
    · rw [e3] at e2
      injection e2 with e2
      have := wide_lt (h.each r k).o b (by rw [Row.own]; exact hb)
      omega
  · rintro k hk (e2 | e2)
    · exact .inr (World.ownsRow.lt h.o4 k e2).1
    · exact .inl e2
theorem PlanAt.add5 {q pb : Nat} {C : Cm} {w w1 : World} (h : PlanAt q pb C w) {A : Option Addr} {c : Nat} (s : Ro) (hs : RtAt q s w) (hsep : ∀ k, blk s.a3 = some k → blk C.A4 ≠ some k) (hown : w1.ownsRow q 43 6 (.slice A (C.rs.length + 1) c) (C.rs.length + 1) (cellsR (C.rs ++ [s])))
    (hg : w.grownBy w1 (Value.slice C.A5 C.rs.length C.c5).ownBlock) :
    PlanAt q pb { C with A5 := A, c5 := c, rs := C.rs ++ [s] } (w1.setCell ⟨pb, 4, none⟩ (.slice A (C.rs.length + 1) c)) ∧ Fr (fun k => k = pb ∨ q ≤ k) w (w1.setCell ⟨pb, 4, none⟩ (.slice A (C.rs.length + 1) c)) := by
  have e : (C.rs ++ [s]).length = C.rs.length + 1 := by simp
  have f1 : Fr (fun k => (Value.slice C.A5 C.rs.length C.c5).ownBlock = some k) w w1 := (Fr.refl _ w).grown hg fun k hk => .inl hk
  have hnp : (Value.slice C.A5 C.rs.length C.c5).ownBlock ≠ some pb := wide_is_ne h.o5 h.here (by decide)
  have here1 : Is w1 pb 75 C.arr := h.here.fr f1 hnp
  have f : Fr (fun k => (Value.slice C.A5 C.rs.length C.c5).ownBlock = some k ∨ k = pb) w (w1.setCell ⟨pb, 4, none⟩ (.slice A (C.rs.length + 1) c)) := (f1.mono fun _ _ h => .inl h).setCell (.inl (.inr rfl)) _
  have fs : Fr (fun k => k = pb) w1 (w1.setCell ⟨pb, 4, none⟩ (.slice A (C.rs.length + 1) c)) := (Fr.refl (fun k => k = pb) w1).setCell (p := ⟨pb, 4, none⟩) (.inl rfl) _
  have hh : Is (w1.setCell ⟨pb, 4, none⟩ (.slice A (C.rs.length + 1) c)) pb 75 (C.arr.setIfInBounds 4 (.slice A (C.rs.length + 1) c)) := here1.set 4 _
  have hown2 := wide_fr hown fs fun k hk e => wide_is_ne hown here1 (by decide) (e ▸ hk)
  have hr : ∀ r, RtAt q r w → (∀ k, blk r.a3 = some k → blk C.A4 ≠ some k) → RtAt q r (w1.setCell ⟨pb, 4, none⟩ (.slice A (C.rs.length + 1) c)) := by
    intro r k hsp
    refine k.fr f ?_ ?_ ?_
    · rintro b hb (e | e)
      · exact wide_ne k.p h.o5 (by decide) b (by rw [Row.own]; exact hb) e
      · subst e; exact wide_is_ne k.p h.here (by decide) (by rw [Row.own]; exact hb)
    · rintro b hb (e | e)
      · exact wide_ne k.f h.o5 (by decide) b (by rw [Row.own]; exact hb) e
      · subst e; exact wide_is_ne k.f h.here (by decide) (by rw [Row.own]; exact hb)
    · rintro b hb (e | e)
      · exact wide_ne k.o h.o5 (by decide) b (by rw [Row.own]; exact hb) e
      · subst e; exact wide_is_ne k.o h.here (by decide) (by rw [Row.own]; exact hb)
  refine ⟨⟨?_, h.lt, Nat.le_trans h.hq f.size, ?_, ?_, ?_, ?_, ?_, ?_, ?_⟩, f.mono ?_⟩
  · have ea : ({ C with A5 := A, c5 := c, rs := C.rs ++ [s] } : Cm).arr = C.arr.setIfInBounds 4 (.slice A (C.rs.length + 1) c) := by unfold Cm.arr; simp
    rw [ea]; exact hh
  · exact wide_fr h.o1 f fun k hk hS => hS.elim (fun e => wide_ne h.o1 h.o5 (by decide) k hk e) fun e => wide_is_ne h.o1 h.here (by decide) (e ▸ hk)
  · exact wide_fr h.o2 f fun k hk hS => hS.elim (fun e => wide_ne h.o2 h.o5 (by decide) k hk e) fun e => wide_is_ne h.o2 h.here (by decide) (e ▸ hk)
  · exact wide_fr h.o3 f fun k hk hS => hS.elim (fun e => wide_ne h.o3 h.o5 (by decide) k hk e) fun e => wide_is_ne h.o3 h.here (by decide) (e ▸ hk)
  · exact wide_fr h.o4 f fun k hk hS => hS.elim (fun e => wide_ne h.o4 h.o5 (by decide) k hk e) fun e => wide_is_ne h.o4 h.here (by decide) (e ▸ hk)
  · show World.ownsRow _ q 43 6 (.slice A (C.rs ++ [s]).length c) (C.rs ++ [s]).length _
    rw [e]; exact hown2
  · intro r hr2
    rcases List.mem_append.1 hr2 with k | k
    · exact hr r (h.each r k) (h.sep r k)
    · rw [List.mem_singleton.1 k]; exact hr s hs hsep
  · intro r hr2
    rcases List.mem_append.1 hr2 with k | k
    · exact h.sep r k
    · rw [List.mem_singleton.1 k]; exact hsep
  · rintro k hk (e2 | e2)
    · exact .inr (World.ownsRow.lt h.o5 k e2).1
    · exact .inl e2
theorem PlanAt.time {q pb : Nat} {C : Cm} {w : World} (h : PlanAt q pb C w) (t : Tm) :
    PlanAt q pb { C with tm := t } (w.setCells pb 5 [.int .i64 t.age, .int .i64 t.brake, .int .i64 t.hold, .int .i64 t.budget]) ∧ Fr (fun k => k = pb ∨ q ≤ k) w (w.setCells pb 5 [.int .i64 t.age, .int .i64 t.brake, .int .i64 t.hold, .int .i64 t.budget]) := by
  have f : Fr (fun k => k = pb) w (w.setCells pb 5 [.int .i64 t.age, .int .i64 t.brake, .int .i64 t.hold, .int .i64 t.budget]) := Fr.setCells _ 5 (Fr.refl _ w) (.inl rfl)
  have hh := Is.setCells [.int .i64 t.age, .int .i64 t.brake, .int .i64 t.hold, .int .i64 t.budget] 5 w C.arr h.here
  refine ⟨⟨?_, h.lt, Nat.le_trans h.hq f.size, ?_, ?_, ?_, ?_, ?_, fun r hr => (h.each r hr).fr f ?_ ?_ ?_, h.sep⟩, f.mono fun _ _ h => .inl h⟩
  · have ea : ({ C with tm := t } : Cm).arr = splice C.arr 5 [.int .i64 t.age, .int .i64 t.brake, .int .i64 t.hold, .int .i64 t.budget] := by unfold Cm.arr; simp [splice]
    rw [ea]; exact hh
  · exact wide_fr h.o1 f fun k hk e => wide_is_ne h.o1 h.here (by decide) (e ▸ hk)
  · exact wide_fr h.o2 f fun k hk e => wide_is_ne h.o2 h.here (by decide) (e ▸ hk)
  · exact wide_fr h.o3 f fun k hk e => wide_is_ne h.o3 h.here (by decide) (e ▸ hk)
  · exact wide_fr h.o4 f fun k hk e => wide_is_ne h.o4 h.here (by decide) (e ▸ hk)
  · exact wide_fr h.o5 f fun k hk e => wide_is_ne h.o5 h.here (by decide) (e ▸ hk)
  · exact fun k hk e => wide_is_ne (h.each r hr).p h.here (by decide) (by rw [Row.own]; exact e ▸ hk)
  · exact fun k hk e => wide_is_ne (h.each r hr).f h.here (by decide) (by rw [Row.own]; exact e ▸ hk)
  · exact fun k hk e => wide_is_ne (h.each r hr).o h.here (by decide) (by rw [Row.own]; exact e ▸ hk)
/-- no list is longer than n -/
structure Sz (n : Nat) (c : Cf) : Prop where
  secs : c.secs.length ≤ n
  jos : c.jos.length ≤ n
  sigs : c.sigs.length ≤ n
  crs : c.crs.length ≤ n
  rts : c.rts.length ≤ n
  each : ∀ r ∈ c.rts, r.path.length ≤ n ∧ r.flank.length ≤ n ∧ r.over.length ≤ n
theorem Sz.mono {n m : Nat} {c : Cf} (h : Sz n c) (k : n ≤ m) : Sz m c := ⟨Nat.le_trans h.secs k, Nat.le_trans h.jos k, Nat.le_trans h.sigs k, Nat.le_trans h.crs k, Nat.le_trans h.rts k, fun r hr => ⟨Nat.le_trans (h.each r hr).1 k, Nat.le_trans (h.each r hr).2.1 k, Nat.le_trans (h.each r hr).2.2 k⟩⟩
theorem RtAt.ok {q n : Nat} {r : Ro} {w : World} (h : RtAt q r w) (hn : n ≤ 1073741824) (h1 : r.path.length ≤ n) (h2 : r.flank.length ≤ n) (h3 : r.over.length ≤ n) : r.Ok w := by
  obtain ⟨_, _, e1, k1, m1, _⟩ := wide_form h.p
  obtain ⟨_, _, e2, k2, m2, _⟩ := wide_form h.f
  obtain ⟨_, _, e3, k3, m3, _⟩ := wide_form h.o
  injection e1 with _ _ e1
  injection e2 with _ _ e2
  injection e3 with _ _ e3
  unfold maxLen at m1 m2 m3
  exact ⟨wide_rd h.p, wide_rd h.f, wide_rd h.o, by omega, by omega, by omega, by omega, by omega, by omega, by omega, by omega, by omega⟩
theorem PlanAt.ok {q pb n : Nat} {C : Cm} {w : World} (h : PlanAt q pb C w) (hn : n ≤ 1073741824) (hz : Sz n C.cf) : C.Ok w := by
  obtain ⟨_, _, e1, k1, m1, _⟩ := wide_form h.o1
  obtain ⟨_, _, e2, k2, m2, _⟩ := wide_form h.o2
  obtain ⟨_, _, e3, k3, m3, _⟩ := wide_form h.o3
  obtain ⟨_, _, e4, k4, m4, _⟩ := wide_form h.o4
  obtain ⟨_, _, e5, k5, m5, _⟩ := wide_form h.o5
  injection e1 with _ _ e1
  injection e2 with _ _ e2
  injection e3 with _ _ e3
  injection e4 with _ _ e4
  injection e5 with _ _ e5
  unfold maxLen at m1 m2 m3 m4 m5
  have z1 : C.l.length ≤ n := hz.secs
  have z2 : C.js.length ≤ n := hz.jos
  have z3 : C.sg.length ≤ n := hz.sigs
  have z4 : C.cr.length ≤ n := hz.crs
  have z5 : C.rs.length ≤ n := by have := hz.rts; unfold Cm.cf at this; rw [List.length_map] at this; exact this
  have z6 : ∀ r ∈ C.rs, r.Ok w := fun r hr => by
    obtain ⟨a, b, c⟩ := hz.each r.rt (List.mem_map_of_mem hr)
    exact (h.each r hr).ok hn a b c
  exact ⟨wide_rd h.o1, wide_rd h.o2, wide_rd h.o3, wide_rd h.o4, wide_rd h.o5, z6, by omega, by omega, by omega, by omega, by omega, by omega, by omega, by omega, by omega, by omega, by omega, by omega, by omega, by omega, by omega⟩
end Go.Proofs.YtkkohdmneognlaaGreatDoor
/- A region that draws its order, in the round of a range over a function: the plain walk of such a region serves. Nothing here speaks of one program. -/
namespace Go.Proofs.YtkkohdmneognlaaGreatDoor
variable {P : Program}

theorem rows_wide {n : Nat} {row : String} {args : Array Value} {w : World} {R : Value → World → Prop} (h : Rows P row args w R) : RowsIn Fence.wide n P row args w R :=
  fun c cs _ => let ⟨v, w', r, s⟩ := h c cs; ⟨v, w', r, stepsIn_wide.2 s⟩
theorem oper_round {l n : Nat} {o : Oper} {a : Act} {w : World} {K : Act → World → Prop} {Q : Exit → Act → World → Prop} (hd : ∀ c, o.op ≠ .defer c) (h : Oper.wp P o a w K Q) : Oper.wpIn (Fence.wide.inRound l) n P o a w K Q := by
  refine ⟨fun _ _ => trivial, ?_⟩
  rw [Oper.semAt_eq _ _ _ hd]
  unfold Oper.wp at h
  generalize (execOp a.eval o).run P w = r at *
  match r, h with
  | .ok (.value v) w', h => exact h
  | .ok .skip w', h => exact h
  | .ok (.defer d) w', h => exact h
  | .ok (.enter f args) w', h => exact ⟨(fun h => by cases h), CallsIn.inRound l (callsIn_wide.2 h)⟩
  | .ok (.row row args) w', h => exact ⟨(fun h => by cases h), rows_wide h⟩
  | .halt (.panic v) w', h => exact h
def noDefer (ops : Array Oper) : Bool := ops.all fun o => match o.op with
  | .defer _ => false
  | _ => true
theorem noDefer_at {ops : Array Oper} {i : Nat} {o : Oper} (h : noDefer ops = true) (ho : ops[i]? = some o) : ∀ c, o.op ≠ .defer c := by
  intro c e
  have := Array.all_eq_true_iff_forall_mem.1 h o (Array.mem_of_getElem? ho)
  simp [e] at this
theorem wpOp_round {l n i : Nat} {ops : Array Oper} {K : Act → World → Prop} {Q : Exit → Act → World → Prop} {a : Act} {w : World} (hd : noDefer ops = true) (hlo : ¬ LetsOut Q) (h : wpOp P ops Q i K a w) : wpOpIn (Fence.wide.inRound l) n P ops Q i K a w := by
  unfold wpOp at h
  unfold wpOpIn
  match hi : ops[i]?, h with
  | none, h => exact h
  | some o, h =>
    simp only at h ⊢
    split
    · rename_i hw
      rw [if_pos hw] at h
      exact oper_round (noDefer_at hd hi) (h.resolve_right fun k => hlo k.2)
    · rename_i hw
      rw [if_neg hw] at h
      exact ⟨fun _ _ => trivial, h⟩
theorem wpAny_round {l n : Nat} {md : Region.Mode} {ops : Array Oper} {Q : Exit → Act → World → Prop} (hd : noDefer ops = true) (hlo : ¬ LetsOut Q) : ∀ (fuel : Nat) (listed : Array Bool) (a : Act) (w : World), wpAny P md ops Q fuel listed a w → wpAnyIn (Fence.wide.inRound l) n P md ops Q fuel listed a w
  | 0, _, _, _, h => h
  | fuel + 1, _, _, _, h => ⟨h.1, fun i hi => wpOp_round hd hlo (wpOp_mono (fun a' w' h' => wpAny_round hd hlo fuel _ a' w' h') (h.2 i hi))⟩
theorem wp_region_round {S : World → Prop} {l n id : Nat} {ops : Array Oper} {Q : Exit → Act → World → Prop} {a : Act} {w : World} (hm : P.follows .mixedOrders = true) (hd : noDefer ops = true) (hlo : ¬ LetsOut Q) (hS : S w.drew)
    (h : S w.drew → wpAnyH P .any ops Q S ops.size (Array.replicate ops.size false) a w.drew) : (Code.region id ops true).wpIn (Fence.wide.inRound l) n P Q a w :=
  wpIn_region_any hm (wpAny_round hd hlo _ _ _ _ (wpAny_of_held _ _ _ _ (h hS)))
end Go.Proofs.YtkkohdmneognlaaGreatDoor

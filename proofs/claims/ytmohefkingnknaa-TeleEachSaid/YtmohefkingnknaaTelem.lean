/- What the document says of payloads and shapes, as plain functions; nothing here speaks of the program. -/
import Derived.Test.YtmohefkingnknaaHeap
namespace Go.Proofs.Ytmohefkingnknaa.Te

/-- so many numbers, each 0 to m -/
def okL (l : List Int) (n : Nat) (m : Int) : Bool := decide (l.length = n) && l.all fun x => decide (0 ≤ x) && decide (x ≤ m)
def byL (l : List Int) : List UInt8 := l.map fun x => UInt8.ofNat x.toNat
def inL (t : List UInt8) : List Int := t.map fun b => (b.toNat : Int)
theorem byL_length (l : List Int) : (byL l).length = l.length := by simp [byL]
theorem inL_length (t : List UInt8) : (inL t).length = t.length := by simp [inL]
theorem okL_iff {l : List Int} {n : Nat} {m : Int} : okL l n m = true ↔ l.length = n ∧ ∀ x ∈ l, 0 ≤ x ∧ x ≤ m := by
  unfold okL
  simp only [Bool.and_eq_true, decide_eq_true_eq, List.all_eq_true]
theorem inL_byL : ∀ {l : List Int}, (∀ x ∈ l, 0 ≤ x ∧ x ≤ 255) → inL (byL l) = l
  | [], _ => rfl
  | x :: l, h => by
    have hx := h x List.mem_cons_self
    show ((UInt8.ofNat x.toNat).toNat : Int) :: inL (byL l) = x :: l
    rw [inL_byL fun y hy => h y (List.mem_cons_of_mem _ hy)]
    congr 1
    rw [UInt8.toNat_ofNat']
    omega
theorem byL_inL : ∀ t : List UInt8, byL (inL t) = t
  | [] => rfl
  | b :: t => by
    show UInt8.ofNat ((b.toNat : Int)).toNat :: byL (inL t) = b :: t
    rw [byL_inL t]
    congr 1
    rw [Int.toNat_natCast, UInt8.ofNat_toNat]
theorem byL_append (l k : List Int) : byL (l ++ k) = byL l ++ byL k := by simp [byL]
/-- n bytes of a text from a place on, or as many as there are -/
def cutL (t : List UInt8) (a n : Nat) : List Int := inL ((t.drop a).take n)
theorem cutL_length (t : List UInt8) (a n : Nat) : (cutL t a n).length = min n (t.length - a) := by
  unfold cutL
  rw [inL_length, List.length_take, List.length_drop]
theorem cutL_here {x y : List UInt8} {l : List Int} {a n : Nat} (ha : x.length = a) (hn : l.length = n) (h : ∀ v ∈ l, 0 ≤ v ∧ v ≤ 255) : cutL (x ++ (byL l ++ y)) a n = l := by
  unfold cutL
  rw [List.drop_left' ha, List.take_left' (by rw [byL_length]; exact hn), inL_byL h]

/-- how many sections, points, crossings, signals a shape has -/
structure Hs where
  s : Nat
  p : Nat
  c : Nat
  g : Nat
structure St where
  occ : List Int
  pos : List Int
  shut : List Int
  lamp : List Int
structure Or where
  pos : List Int
  asp : List Int
  shut : List Int
def St.nil : St := ⟨[], [], [], []⟩
def Or.nil : Or := ⟨[], [], []⟩
def St.ok (h : Hs) (x : St) : Bool := okL x.occ h.s 1 && (okL x.pos h.p 2 && (okL x.shut h.c 1 && okL x.lamp h.g 1))
def Or.ok (h : Hs) (x : Or) : Bool := okL x.pos h.p 2 && (okL x.asp h.g 2 && okL x.shut h.c 1)
def St.bytes (x : St) : List UInt8 := 1 :: (byL x.occ ++ (byL x.pos ++ (byL x.shut ++ byL x.lamp)))
def Or.bytes (x : Or) : List UInt8 := 2 :: (byL x.pos ++ (byL x.asp ++ byL x.shut))
/-- the payload, and the error -/
def stL (h : Hs) (x : St) : List UInt8 × Int := if x.ok h = true then (x.bytes, 0) else ([], 32)
def orL (h : Hs) (x : Or) : List UInt8 × Int := if x.ok h = true then (x.bytes, 0) else ([], 32)
def St.cut (h : Hs) (t : List UInt8) : St := ⟨cutL t 1 h.s, cutL t (1 + h.s) h.p, cutL t (1 + h.s + h.p) h.c, cutL t (1 + h.s + h.p + h.c) h.g⟩
def Or.cut (h : Hs) (t : List UInt8) : Or := ⟨cutL t 1 h.p, cutL t (1 + h.p) h.g, cutL t (1 + h.p + h.g) h.c⟩
/-- what a payload says, and the error -/
def rstL (h : Hs) (t : List UInt8) : St × Int := if stL h (St.cut h t) = (t, 0) then (St.cut h t, 0) else (St.nil, 3)
def rorL (h : Hs) (t : List UInt8) : Or × Int := if orL h (Or.cut h t) = (t, 0) then (Or.cut h t, 0) else (Or.nil, 3)

theorem St.ok_iff {h : Hs} {x : St} : x.ok h = true ↔ okL x.occ h.s 1 = true ∧ okL x.pos h.p 2 = true ∧ okL x.shut h.c 1 = true ∧ okL x.lamp h.g 1 = true := by
  unfold St.ok
  simp only [Bool.and_eq_true]
theorem Or.ok_iff {h : Hs} {x : Or} : x.ok h = true ↔ okL x.pos h.p 2 = true ∧ okL x.asp h.g 2 = true ∧ okL x.shut h.c 1 = true := by
  unfold Or.ok
  simp only [Bool.and_eq_true]
theorem St.bytes_length (x : St) : x.bytes.length = 1 + x.occ.length + x.pos.length + x.shut.length + x.lamp.length := by
  unfold St.bytes
  simp only [List.length_cons, List.length_append, byL_length]
  omega
theorem Or.bytes_length (x : Or) : x.bytes.length = 1 + x.pos.length + x.asp.length + x.shut.length := by
  unfold Or.bytes
  simp only [List.length_cons, List.length_append, byL_length]
  omega
theorem small {l : List Int} {n : Nat} {m : Int} (h : okL l n m = true) (hm : m ≤ 255) : ∀ x ∈ l, 0 ≤ x ∧ x ≤ 255 := fun x hx => by
  have := (okL_iff.1 h).2 x hx
  omega
/-- a right status is read as it is -/
theorem St.cut_bytes {h : Hs} {x : St} (hx : x.ok h = true) : St.cut h x.bytes = x := by
  obtain ⟨h1, h2, h3, h4⟩ := St.ok_iff.1 hx
  obtain ⟨n1, _⟩ := okL_iff.1 h1
  obtain ⟨n2, _⟩ := okL_iff.1 h2
  obtain ⟨n3, _⟩ := okL_iff.1 h3
  obtain ⟨n4, _⟩ := okL_iff.1 h4
  have e1 : cutL x.bytes 1 h.s = x.occ := cutL_here (x := [1]) rfl n1 (small h1 (by decide))
  have e2 : cutL x.bytes (1 + h.s) h.p = x.pos := by
    have := cutL_here (x := [1] ++ byL x.occ) (y := byL x.shut ++ byL x.lamp) (l := x.pos) (a := 1 + h.s) (n := h.p) (by simp [byL_length]; omega) n2 (small h2 (by decide))
    simpa [St.bytes, List.append_assoc] using this
  have e3 : cutL x.bytes (1 + h.s + h.p) h.c = x.shut := by
    have := cutL_here (x := [1] ++ byL x.occ ++ byL x.pos) (y := byL x.lamp) (l := x.shut) (a := 1 + h.s + h.p) (n := h.c) (by simp [byL_length]; omega) n3 (small h3 (by decide))
    simpa [St.bytes, List.append_assoc] using this
  have e4 : cutL x.bytes (1 + h.s + h.p + h.c) h.g = x.lamp := by
    have := cutL_here (x := [1] ++ byL x.occ ++ byL x.pos ++ byL x.shut) (y := []) (l := x.lamp) (a := 1 + h.s + h.p + h.c) (n := h.g) (by simp [byL_length]; omega) n4 (small h4 (by decide))
    simpa [St.bytes, List.append_assoc] using this
  unfold St.cut
  rw [e1, e2, e3, e4]
theorem rst_st {h : Hs} {x : St} (hx : x.ok h = true) : rstL h x.bytes = (x, 0) := by
  unfold rstL
  rw [St.cut_bytes hx]
  unfold stL
  rw [if_pos hx, if_pos rfl]
theorem st_rst {h : Hs} {t : List UInt8} (ht : (rstL h t).2 = 0) : stL h (rstL h t).1 = (t, 0) := by
  unfold rstL at *
  by_cases hc : stL h (St.cut h t) = (t, 0)
  · rw [if_pos hc]; exact hc
  · rw [if_neg hc] at ht; cases ht
theorem st_ok {h : Hs} {x : St} {t : List UInt8} (hx : stL h x = (t, 0)) : x.ok h = true ∧ t = x.bytes := by
  unfold stL at hx
  by_cases ho : x.ok h = true
  · rw [if_pos ho] at hx
    injection hx with e
    exact ⟨ho, e.symm⟩
  · rw [if_neg ho] at hx
    injection hx with _ e
    cases e
theorem Or.cut_bytes {h : Hs} {x : Or} (hx : x.ok h = true) : Or.cut h x.bytes = x := by
  obtain ⟨h1, h2, h3⟩ := Or.ok_iff.1 hx
  obtain ⟨n1, _⟩ := okL_iff.1 h1
  obtain ⟨n2, _⟩ := okL_iff.1 h2
  obtain ⟨n3, _⟩ := okL_iff.1 h3
  have e1 : cutL x.bytes 1 h.p = x.pos := cutL_here (x := [2]) rfl n1 (small h1 (by decide))
  have e2 : cutL x.bytes (1 + h.p) h.g = x.asp := by
    have := cutL_here (x := [2] ++ byL x.pos) (y := byL x.shut) (l := x.asp) (a := 1 + h.p) (n := h.g) (by simp [byL_length]; omega) n2 (small h2 (by decide))
    simpa [Or.bytes, List.append_assoc] using this
  have e3 : cutL x.bytes (1 + h.p + h.g) h.c = x.shut := by
    have := cutL_here (x := [2] ++ byL x.pos ++ byL x.asp) (y := []) (l := x.shut) (a := 1 + h.p + h.g) (n := h.c) (by simp [byL_length]; omega) n3 (small h3 (by decide))
    simpa [Or.bytes, List.append_assoc] using this
  unfold Or.cut
  rw [e1, e2, e3]
theorem ror_or {h : Hs} {x : Or} (hx : x.ok h = true) : rorL h x.bytes = (x, 0) := by
  unfold rorL
  rw [Or.cut_bytes hx]
  unfold orL
  rw [if_pos hx, if_pos rfl]
theorem or_ror {h : Hs} {t : List UInt8} (ht : (rorL h t).2 = 0) : orL h (rorL h t).1 = (t, 0) := by
  unfold rorL at *
  by_cases hc : orL h (Or.cut h t) = (t, 0)
  · rw [if_pos hc]; exact hc
  · rw [if_neg hc] at ht; cases ht
theorem or_ok {h : Hs} {x : Or} {t : List UInt8} (hx : orL h x = (t, 0)) : x.ok h = true ∧ t = x.bytes := by
  unfold orL at hx
  by_cases ho : x.ok h = true
  · rw [if_pos ho] at hx
    injection hx with e
    exact ⟨ho, e.symm⟩
  · rw [if_neg ho] at hx
    injection hx with _ e
    cases e
/-- what is read has the first byte of its kind, and the length of its shape -/
theorem rst_head {h : Hs} {t : List UInt8} (ht : (rstL h t).2 = 0) : t.head? = some 1 ∧ t.length = 1 + h.s + h.p + h.c + h.g := by
  obtain ⟨h1, h2⟩ := st_ok (st_rst ht)
  obtain ⟨k1, k2, k3, k4⟩ := St.ok_iff.1 h1
  have n1 := (okL_iff.1 k1).1
  have n2 := (okL_iff.1 k2).1
  have n3 := (okL_iff.1 k3).1
  have n4 := (okL_iff.1 k4).1
  generalize (rstL h t).1 = x at *
  subst h2
  exact ⟨rfl, by rw [St.bytes_length]; omega⟩
theorem ror_head {h : Hs} {t : List UInt8} (ht : (rorL h t).2 = 0) : t.head? = some 2 ∧ t.length = 1 + h.p + h.g + h.c := by
  obtain ⟨h1, h2⟩ := or_ok (or_ror ht)
  obtain ⟨k1, k2, k3⟩ := Or.ok_iff.1 h1
  have n1 := (okL_iff.1 k1).1
  have n2 := (okL_iff.1 k2).1
  have n3 := (okL_iff.1 k3).1
  generalize (rorL h t).1 = x at *
  subst h2
  exact ⟨rfl, by rw [Or.bytes_length]; omega⟩
/-- a status' payload is none of another shape's size -/
theorem st_cross {h h' : Hs} {x : St} (hx : x.ok h = true) (hn : h.s + h.p + h.c + h.g ≠ h'.s + h'.p + h'.c + h'.g) : (rstL h' x.bytes).2 ≠ 0 := by
  intro e
  have h1 := (rst_head e).2
  have h2 := (rst_head (h := h) (t := x.bytes) (by rw [rst_st hx])).2
  omega

/-! the sections, and others, of a controller -/
/-- the places of a list at which a test holds, rising, from n on -/
def idx {α : Type} (f : α → Bool) : Nat → List α → List Int
  | _, [] => []
  | n, x :: l => if f x = true then (n : Int) :: idx f (n + 1) l else idx f (n + 1) l
theorem idx_snoc {α : Type} (f : α → Bool) : ∀ (l : List α) (n : Nat) (x : α), idx f n (l ++ [x]) = idx f n l ++ (if f x = true then [((n + l.length : Nat) : Int)] else [])
  | [], n, x => by
    show (if f x = true then [(n : Int)] else []) = _
    simp [idx]
  | y :: l, n, x => by
    show (if f y = true then (n : Int) :: idx f (n + 1) (l ++ [x]) else idx f (n + 1) (l ++ [x])) = (if f y = true then (n : Int) :: idx f (n + 1) l else idx f (n + 1) l) ++ _
    rw [idx_snoc f l (n + 1) x, show n + 1 + l.length = n + (y :: l).length by simp; omega]
    split <;> simp
theorem idx_len {α : Type} (f : α → Bool) : ∀ (l : List α) (n : Nat), (idx f n l).length = (l.filter f).length
  | [], _ => rfl
  | x :: l, n => by
    show (if f x = true then (n : Int) :: idx f (n + 1) l else idx f (n + 1) l).length = _
    rw [List.filter_cons]
    split
    · rw [List.length_cons, List.length_cons, idx_len f l]
    · exact idx_len f l _
theorem idx_le {α : Type} (f : α → Bool) (l : List α) (n : Nat) : (idx f n l).length ≤ l.length := by
  rw [idx_len]
  exact List.length_filter_le _ _
/-- what is told of each of the controllers 0 to 3 is told once of those that any of them has -/
theorem four {α : Type} (o : α → Int) (f : α → Bool) : ∀ l : List α, (l.filter fun x => decide (o x = 0) && f x).length + (l.filter fun x => decide (o x = 1) && f x).length + (l.filter fun x => decide (o x = 2) && f x).length + (l.filter fun x => decide (o x = 3) && f x).length = (l.filter fun x => (decide (0 ≤ o x) && decide (o x < 4)) && f x).length
  | [] => rfl
  | x :: l => by
    have ih := four o f l
    simp only [List.filter_cons]
    cases hf : f x
    · simp only [Bool.and_false]
      simpa using ih
    · simp only [Bool.and_true, decide_eq_true_eq, Bool.and_eq_true]
      by_cases h0 : o x = 0
      · rw [if_pos h0, if_neg (by omega), if_neg (by omega), if_neg (by omega), if_pos (by omega)]
        simp only [List.length_cons]
        omega
      · by_cases h1 : o x = 1
        · rw [if_neg h0, if_pos h1, if_neg (by omega), if_neg (by omega), if_pos (by omega)]
          simp only [List.length_cons]
          omega
        · by_cases h2 : o x = 2
          · rw [if_neg h0, if_neg h1, if_pos h2, if_neg (by omega), if_pos (by omega)]
            simp only [List.length_cons]
            omega
          · by_cases h3 : o x = 3
            · rw [if_neg h0, if_neg h1, if_neg h2, if_pos h3, if_pos (by omega)]
              simp only [List.length_cons]
              omega
            · rw [if_neg h0, if_neg h1, if_neg h2, if_neg h3, if_neg (by omega)]
              exact ih
end Go.Proofs.Ytmohefkingnknaa.Te

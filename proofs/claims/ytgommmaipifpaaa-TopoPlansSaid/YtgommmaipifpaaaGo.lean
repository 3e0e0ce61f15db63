/- Plain mathematics of a train's way: section by section, no section twice. -/
import Derived.Test.YtgommmaipifpaaaSmall
namespace Go.Proofs.Ytgommmaipifpaaa

def seenAt (seen : List Bool) (s : Nat) : Bool := seen.getD s false
def unseen (seen : List Bool) : Nat := (seen.filter fun b => !b).length
def followF : Nat → List Sec → List Jo → List Int → List Bool → Int → Int → List St
  | 0, _, _, _, _, _, _ => []
  | f + 1, l, js, p, seen, s, i =>
    if (isSecB l.length s && !seenAt seen s.toNat) = true then
      if wayOk (kindOf l s.toNat) i (posAt p s.toNat) = true then
        ⟨s, i, wayOut (kindOf l s.toNat) i (posAt p s.toNat)⟩ ::
          (if nextOk js s (wayOut (kindOf l s.toNat) i (posAt p s.toNat)) = true then
            followF f l js p (seen.set s.toNat true) (nextS js s (wayOut (kindOf l s.toNat) i (posAt p s.toNat))) (nextE js s (wayOut (kindOf l s.toNat) i (posAt p s.toNat)))
          else [])
      else [⟨s, i, -1⟩]
    else []
def followM (l : List Sec) (js : List Jo) (s i : Int) (p : List Int) : List St :=
  if isEndB l s i = true then followF (l.length + 1) l js p (List.replicate l.length false) s i else []

theorem unseen_new (n : Nat) : unseen (List.replicate n false) = n := by
  unfold unseen
  induction n with
  | zero => rfl
  | succ n ih => rw [List.replicate_succ, List.filter_cons]; simp
theorem unseen_le (seen : List Bool) : unseen seen ≤ seen.length := List.length_filter_le _ _
theorem unseen_set : ∀ (seen : List Bool) (k : Nat), k < seen.length → seenAt seen k = false → unseen (seen.set k true) + 1 = unseen seen
  | [], _, h, _ => by simp at h
  | b :: r, 0, _, hs => by
    have hb : b = false := hs
    subst hb
    simp [unseen]
  | b :: r, k + 1, h, hs => by
    have ih := unseen_set r k (by simpa using h) hs
    unfold unseen at ih ⊢
    rw [List.set_cons_succ, List.filter_cons, List.filter_cons]
    cases b <;> simp <;> omega
theorem seenAt_set (seen : List Bool) (k j : Nat) (h : k < seen.length) : seenAt (seen.set k true) j = (decide (k = j) || seenAt seen j) := by
  unfold seenAt
  rw [List.getD_eq_getElem?_getD, List.getD_eq_getElem?_getD, List.getElem?_set]
  by_cases e : k = j
  · subst e; simp [h]
  · simp [e]
theorem seenAt_get {seen : List Bool} {k : Nat} (h : k < seen.length) : seen[k]? = some (seenAt seen k) := by
  unfold seenAt
  rw [List.getD_eq_getElem?_getD, List.getElem?_eq_getElem h]
  rfl

section
variable {l : List Sec} {js : List Jo} {p : List Int} {seen : List Bool} {f : Nat} {s i : Int}
theorem follow_stop (h : (isSecB l.length s && !seenAt seen s.toNat) = false) : followF f l js p seen s i = [] := by
  cases f with
  | zero => rfl
  | succ f => rw [followF, if_neg (by rw [h]; decide)]
theorem follow_nat {k : Nat} (hk : k < l.length) (hs : seenAt seen k = false) :
    followF (f + 1) l js p seen k i =
      if wayOk (kindOf l k) i (posAt p k) = true then
        ⟨k, i, wayOut (kindOf l k) i (posAt p k)⟩ ::
          (if nextOk js k (wayOut (kindOf l k) i (posAt p k)) = true then
            followF f l js p (seen.set k true) (nextS js k (wayOut (kindOf l k) i (posAt p k))) (nextE js k (wayOut (kindOf l k) i (posAt p k)))
          else [])
      else [⟨k, i, -1⟩] := by
  rw [followF, if_pos (by rw [isSecB_nat hk, Int.toNat_natCast, hs]; rfl), Int.toNat_natCast]
end
end Go.Proofs.Ytgommmaipifpaaa

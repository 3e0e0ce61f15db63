/- Plain: what comes to pass in CellsCuts. -/
import Derived.Test.YtafhkhkpknipmaaFree
namespace Go.Proofs.Ytafhkhkpknipmaa
open Go.RowKit Go.Maps

theorem wf_int {x : Int} (h1 : -9223372036854775808 ≤ x) (h2 : x ≤ 9223372036854775807) : (ki x).wf = true := by
  simp only [Lit.wf, IntKind.min, IntKind.max, IntKind.signed, IntKind.bits]
  simp
  omega
namespace Cu
variable (part more : Int) (t : List UInt8)
def a1 : Mm := Mm.new.arm fun i => cutAt [(1, more), (0, part)] i
def a2 : Mm := { (a1 part more) with acts := 1, down := true, pg := layP Mm.new.pg 1 0 (t.take (min part.toNat t.length)) }
def x1 : Mm := { Mm.new with acts := 1, pg := layP Mm.new.pg 1 0 t }
def x2 : Mm := (x1 t).arm fun i => cutAt [(0, more)] i
def x3 : Mm := { (x2 more t) with acts := 2, down := true, pg := layP (x1 t).pg 1 0 (List.replicate (min more.toNat 4096) 255), worn := fun q => if q = 1 then 1 else 0 }
variable {part more t}
theorem cut0 : (a1 part more).cut ((a1 part more).acts - (a1 part more).armed) = some part := by
  show cutAt [(1, more), (0, part)] ((0 : Nat) : Int) = some part
  unfold cutAt
  simp [List.foldl, cutStep]
theorem cutx : (x2 more t).cut ((x2 more t).acts - (x2 more t).armed) = some more := by
  show cutAt [(0, more)] ((1 - 1 : Nat) : Int) = some more
  unfold cutAt
  simp [List.foldl, cutStep]
theorem b1 (ht : t.length ≤ 4096) : (a1 part more).burnE 1 0 t = 14 ∧ (a1 part more).burnM 1 0 t = a2 part more t :=
  burn_hit (m := a1 part more) (p := 1) (a := 0) rfl cut0 (by decide) (by omega) fun _ _ => rfl
theorem b2 : (a2 part more t).burnE 1 0 t = 14 ∧ (a2 part more t).burnM 1 0 t = a2 part more t := burn_down (m := a2 part more t) rfl 1 0 t
theorem b3 : (a2 part more t).eraseE 2 = 14 ∧ (a2 part more t).eraseM 2 = a2 part more t := erase_down (m := a2 part more t) rfl 2
variable (part more t) in
def S : List UInt8 := cutP ((a2 part more t).pg 1) 0 t.length
theorem S_length : (S part more t).length = t.length := cutP_length _ _ _
theorem S_take (n : Nat) (hn : n = min part.toNat t.length) : (S part more t).take n = t.take n := by
  apply List.ext_getElem?
  intro i
  rw [List.getElem?_take, List.getElem?_take]
  split
  · rename_i hi
    unfold S
    rw [cutP_get _ _ _ _ (by omega), List.getElem?_eq_getElem (by omega)]
    show some (layP _ 1 0 _ 1 (0 + i)) = _
    rw [layP_in _ _ _ _ i t[i] (by rw [List.getElem?_take, if_pos (by omega), List.getElem?_eq_getElem (by omega)])]
  · rfl
theorem b4 (ht : t.length ≤ 4096) : (a2 part more t).again.spotE 1 0 (t.length : Int) = 0 ∧ (a2 part more t).again.readT 1 0 (t.length : Int) = S part more t :=
  read_cut (m := (a2 part more t).again) (p := 1) (a := 0) rfl (by decide) (by omega)
theorem b5 (n d : Nat) (hd : n + d = 4096) : (a2 part more t).again.spotE 1 (n : Int) (d : Int) = 0 ∧ (a2 part more t).again.readT 1 (n : Int) (d : Int) = cutP ((a2 part more t).pg 1) n d :=
  read_cut (m := (a2 part more t).again) (p := 1) rfl (by decide) (by omega)
theorem b6 (n : Nat) (hn : n = min part.toNat t.length) : (a2 part more t).again.bare 1 ≤ n := by
  show (if (0 : Int) ≤ 1 ∧ (1 : Int) < 24 then bareN ((a2 part more t).pg 1) 4096 else 0) ≤ n
  rw [if_pos (by decide)]
  rcases Nat.eq_zero_or_pos (bareN ((a2 part more t).pg 1) 4096) with h | h
  · omega
  · have h1 := bareN_last ((a2 part more t).pg 1) 4096 (by omega)
    have h2 := bareN_le ((a2 part more t).pg 1) 4096
    rcases Nat.lt_or_ge n (bareN ((a2 part more t).pg 1) 4096) with h3 | h3
    · refine absurd ?_ h1
      show layP _ 1 0 _ 1 _ = 255
      rw [layP_out _ _ _ _ _ _ (by rw [List.length_take]; omega)]
      rfl
    · exact h3
theorem c1 (ht : t.length ≤ 4096) : Mm.new.burnE 1 0 t = 0 ∧ Mm.new.burnM 1 0 t = x1 t :=
  burn_free (m := Mm.new) (p := 1) (a := 0) rfl rfl (by decide) (by omega) fun _ _ => rfl
theorem c2 : (x2 more t).eraseE 1 = 14 ∧ (x2 more t).eraseM 1 = x3 more t := by
  have h := erase_hit (m := x2 more t) (p := 1) rfl cutx (by decide)
  exact ⟨h.1, h.2⟩
theorem c3 (g : Nat) (hg : g = min more.toNat 4096) : (x3 more t).again.spotE 1 0 (g : Int) = 0 ∧ (x3 more t).again.readT 1 0 (g : Int) = List.replicate g 255 := by
  have h := read_is (m := (x3 more t).again) (p := 1) (a := 0) (l := List.replicate g 255) rfl (by decide) (by rw [List.length_replicate]; omega) (fun i x hx => by
    show layP _ 1 0 _ 1 (0 + i) = x
    rw [List.getElem?_replicate] at hx
    split at hx
    · injection hx with hx
      rw [lay_rep, if_pos ⟨rfl, by omega⟩, hx]
    · cases hx)
  rw [List.length_replicate] at h
  exact h
variable (more t) in
def T (g : Nat) : List UInt8 := cutP ((x3 more t).pg 1) g (4096 - g)
theorem c4 (g d : Nat) (hg : g + d = 4096) : (x3 more t).again.spotE 1 (g : Int) (d : Int) = 0 ∧ (x3 more t).again.readT 1 (g : Int) (d : Int) = T more t g := by
  have h := read_cut (m := (x3 more t).again) (p := 1) (a := g) (n := d) rfl (by decide) (by omega)
  rw [show d = 4096 - g by omega] at h ⊢
  exact h
theorem T_length (g : Nat) : (T more t g).length = 4096 - g := cutP_length _ _ _
theorem T_take (g r : Nat) (hg : g = min more.toNat 4096) (hr : r = min g t.length) (ht : t.length ≤ 4096) : (T more t g).take (t.length - r) = t.drop r := by
  apply List.ext_getElem?
  intro i
  rw [List.getElem?_take, List.getElem?_drop]
  split
  · rename_i hi
    unfold T
    rw [cutP_get _ _ _ _ (by omega), List.getElem?_eq_getElem (by omega)]
    show some (layP _ 1 0 _ 1 (g + i)) = _
    rw [lay_rep, if_neg (by omega)]
    show some (layP _ 1 0 t 1 (g + i)) = _
    have := layP_in Mm.new.pg 1 0 t (g + i) t[g + i] (List.getElem?_eq_getElem (by omega))
    rw [Nat.zero_add] at this
    rw [this]
    congr 2
    omega
  · rw [List.getElem?_eq_none (by omega)]
end Cu
end Go.Proofs.Ytafhkhkpknipmaa

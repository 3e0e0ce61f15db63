/- A view that is put together: four rows of looks of the call's own. -/
import Derived.Test.YtfmhfngilimhjaaJt
namespace Go.Proofs.Ytfmhfngilimhjaa.Im
open Go.RowKit Li

theorem Try.infoLk : (Try.prog.info? 59).map (fun i => (i.zero, i.size, i.bytes)) = some (some (.agg #[.int .i64 0, .int .i64 0, .bool false]), 3, 24) := by kernel_rfl
theorem cellsL_snoc (l : List Lk) (x : Lk) : cellsL (l ++ [x]) = cellsL l ++ x.cells := by
  unfold cellsL
  rw [List.flatMap_append]
  simp
/-- two rows have no block in common -/
def Ap (v u : Value) : Prop := ∀ k, v.ownBlock = some k → u.ownBlock ≠ some k
structure Vr (w : World) (zb vb : Nat) (v0 v1 v2 v3 : Value) (L0 L1 L2 L3 : List Lk) : Prop where
  is : Is w vb 55 #[v0, v1, v2, v3]
  hz : zb ≤ vb
  o0 : w.ownsRow zb 59 3 v0 L0.length (cellsL L0)
  o1 : w.ownsRow zb 59 3 v1 L1.length (cellsL L1)
  o2 : w.ownsRow zb 59 3 v2 L2.length (cellsL L2)
  o3 : w.ownsRow zb 59 3 v3 L3.length (cellsL L3)
  n01 : Ap v0 v1
  n02 : Ap v0 v2
  n03 : Ap v0 v3
  n12 : Ap v1 v2
  n13 : Ap v1 v3
  n23 : Ap v2 v3
theorem Vr.fr0 {w w1 : World} {zb vb : Nat} {v0 v1 v2 v3 : Value} {L0 L1 L2 L3 : List Lk} (h : Vr w zb vb v0 v1 v2 v3 L0 L1 L2 L3) (f : Fr (fun _ => False) w w1) : Vr w1 zb vb v0 v1 v2 v3 L0 L1 L2 L3 :=
  { h with is := h.is.fr f id, o0 := wide_fr h.o0 f fun _ _ => id, o1 := wide_fr h.o1 f fun _ _ => id, o2 := wide_fr h.o2 f fun _ _ => id, o3 := wide_fr h.o3 f fun _ _ => id }
theorem Ap.new {w : World} {b n s : Nat} {e : TypeId} {v v' u : Value} {xs : List Value} (h : Ap v u) (hu : w.ownsRow b e s u n xs) (ht : v'.ownBlock = v.ownBlock ∨ v'.ownBlock = some w.heap.size) : Ap v' u := by
  intro k hk hc
  rcases ht with ht | ht
  · exact h k (ht ▸ hk) hc
  · rw [ht] at hk
    injection hk with hk
    have := (World.ownsRow.lt hu k hc).2
    omega
theorem Ap.symm {v u : Value} (h : Ap v u) : Ap u v := fun k hk hc => h k hc hk
theorem Vr.put0 {w w2 : World} {zb vb : Nat} {v0 v1 v2 v3 v' : Value} {L0 L1 L2 L3 : List Lk} {x : Lk} (h : Vr w zb vb v0 v1 v2 v3 L0 L1 L2 L3) (ho : w2.ownsRow zb 59 3 v' (L0.length + 1) (cellsL L0 ++ x.cells)) (hg : w.grownBy w2 v0.ownBlock) (ht : v'.ownBlock = v0.ownBlock ∨ v'.ownBlock = some w.heap.size) :
    Vr (w2.setCell ⟨vb, 0, none⟩ v') zb vb v' v1 v2 v3 (L0 ++ [x]) L1 L2 L3 ∧ Fr (fun q => q = vb ∨ v0.ownBlock = some q) w (w2.setCell ⟨vb, 0, none⟩ v') := by
  have fg : Fr (fun q => v0.ownBlock = some q) w w2 := (Fr.refl _ w).grown hg fun _ hk => .inl hk
  have hvb : ∀ q, v0.ownBlock = some q → q ≠ vb := fun q hq e => wide_is_ne h.o0 h.is (by decide) (e ▸ hq)
  have i2 := h.is.fr fg fun hq => hvb _ hq rfl
  have fs := (Fr.refl (fun q => q = vb) w2).setCell (p := ⟨vb, 0, none⟩) (.inl rfl) v'
  have far : ∀ {n : Nat} {u : Value} {xs : List Value}, w.ownsRow zb 59 3 u n xs → Ap v0 u → (w2.setCell ⟨vb, 0, none⟩ v').ownsRow zb 59 3 u n xs := fun hu ap =>
    wide_fr (wide_fr hu fg fun q hq e => ap q e hq) fs fun q hq e => wide_is_ne hu h.is (by decide) (e ▸ hq)
  have on : (w2.setCell ⟨vb, 0, none⟩ v').ownsRow zb 59 3 v' (L0 ++ [x]).length (cellsL (L0 ++ [x])) := by
    rw [cellsL_snoc, List.length_append]
    exact wide_fr ho fs fun q hq e => wide_is_ne ho i2 (by decide) (e ▸ hq)
  refine ⟨⟨i2.set 0 v', h.hz, on, far h.o1 h.n01, far h.o2 h.n02, far h.o3 h.n03, (Ap.new h.n01 h.o1 ht), (Ap.new h.n02 h.o2 ht), (Ap.new h.n03 h.o3 ht), h.n12, h.n13, h.n23⟩, (fg.mono fun _ _ h => .inr h).trans fs fun _ _ h => .inl h⟩
theorem Vr.put1 {w w2 : World} {zb vb : Nat} {v0 v1 v2 v3 v' : Value} {L0 L1 L2 L3 : List Lk} {x : Lk} (h : Vr w zb vb v0 v1 v2 v3 L0 L1 L2 L3) (ho : w2.ownsRow zb 59 3 v' (L1.length + 1) (cellsL L1 ++ x.cells)) (hg : w.grownBy w2 v1.ownBlock) (ht : v'.ownBlock = v1.ownBlock ∨ v'.ownBlock = some w.heap.size) :
    Vr (w2.setCell ⟨vb, 1, none⟩ v') zb vb v0 v' v2 v3 L0 (L1 ++ [x]) L2 L3 ∧ Fr (fun q => q = vb ∨ v1.ownBlock = some q) w (w2.setCell ⟨vb, 1, none⟩ v') := by
  have fg : Fr (fun q => v1.ownBlock = some q) w w2 := (Fr.refl _ w).grown hg fun _ hk => .inl hk
  have hvb : ∀ q, v1.ownBlock = some q → q ≠ vb := fun q hq e => wide_is_ne h.o1 h.is (by decide) (e ▸ hq)
  have i2 := h.is.fr fg fun hq => hvb _ hq rfl
  have fs := (Fr.refl (fun q => q = vb) w2).setCell (p := ⟨vb, 1, none⟩) (.inl rfl) v'
  have far : ∀ {n : Nat} {u : Value} {xs : List Value}, w.ownsRow zb 59 3 u n xs → Ap v1 u → (w2.setCell ⟨vb, 1, none⟩ v').ownsRow zb 59 3 u n xs := fun hu ap =>
    wide_fr (wide_fr hu fg fun q hq e => ap q e hq) fs fun q hq e => wide_is_ne hu h.is (by decide) (e ▸ hq)
  have on : (w2.setCell ⟨vb, 1, none⟩ v').ownsRow zb 59 3 v' (L1 ++ [x]).length (cellsL (L1 ++ [x])) := by
    rw [cellsL_snoc, List.length_append]
    exact wide_fr ho fs fun q hq e => wide_is_ne ho i2 (by decide) (e ▸ hq)
  refine ⟨⟨i2.set 1 v', h.hz, far h.o0 h.n01.symm, on, far h.o2 h.n12, far h.o3 h.n13, (Ap.new h.n01.symm h.o0 ht).symm, h.n02, h.n03, (Ap.new h.n12 h.o2 ht), (Ap.new h.n13 h.o3 ht), h.n23⟩, (fg.mono fun _ _ h => .inr h).trans fs fun _ _ h => .inl h⟩
theorem Vr.put2 {w w2 : World} {zb vb : Nat} {v0 v1 v2 v3 v' : Value} {L0 L1 L2 L3 : List Lk} {x : Lk} (h : Vr w zb vb v0 v1 v2 v3 L0 L1 L2 L3) (ho : w2.ownsRow zb 59 3 v' (L2.length + 1) (cellsL L2 ++ x.cells)) (hg : w.grownBy w2 v2.ownBlock) (ht : v'.ownBlock = v2.ownBlock ∨ v'.ownBlock = some w.heap.size) :
    Vr (w2.setCell ⟨vb, 2, none⟩ v') zb vb v0 v1 v' v3 L0 L1 (L2 ++ [x]) L3 ∧ Fr (fun q => q = vb ∨ v2.ownBlock = some q) w (w2.setCell ⟨vb, 2, none⟩ v') := by
  have fg : Fr (fun q => v2.ownBlock = some q) w w2 := (Fr.refl _ w).grown hg fun _ hk => .inl hk
  have hvb : ∀ q, v2.ownBlock = some q → q ≠ vb := fun q hq e => wide_is_ne h.o2 h.is (by decide) (e ▸ hq)
  have i2 := h.is.fr fg fun hq => hvb _ hq rfl
  have fs := (Fr.refl (fun q => q = vb) w2).setCell (p := ⟨vb, 2, none⟩) (.inl rfl) v'
  have far : ∀ {n : Nat} {u : Value} {xs : List Value}, w.ownsRow zb 59 3 u n xs → Ap v2 u → (w2.setCell ⟨vb, 2, none⟩ v').ownsRow zb 59 3 u n xs := fun hu ap =>
    wide_fr (wide_fr hu fg fun q hq e => ap q e hq) fs fun q hq e => wide_is_ne hu h.is (by decide) (e ▸ hq)
  have on : (w2.setCell ⟨vb, 2, none⟩ v').ownsRow zb 59 3 v' (L2 ++ [x]).length (cellsL (L2 ++ [x])) := by
    rw [cellsL_snoc, List.length_append]
    exact wide_fr ho fs fun q hq e => wide_is_ne ho i2 (by decide) (e ▸ hq)
  refine ⟨⟨i2.set 2 v', h.hz, far h.o0 h.n02.symm, far h.o1 h.n12.symm, on, far h.o3 h.n23, h.n01, (Ap.new h.n02.symm h.o0 ht).symm, h.n03, (Ap.new h.n12.symm h.o1 ht).symm, h.n13, (Ap.new h.n23 h.o3 ht)⟩, (fg.mono fun _ _ h => .inr h).trans fs fun _ _ h => .inl h⟩
theorem Vr.put3 {w w2 : World} {zb vb : Nat} {v0 v1 v2 v3 v' : Value} {L0 L1 L2 L3 : List Lk} {x : Lk} (h : Vr w zb vb v0 v1 v2 v3 L0 L1 L2 L3) (ho : w2.ownsRow zb 59 3 v' (L3.length + 1) (cellsL L3 ++ x.cells)) (hg : w.grownBy w2 v3.ownBlock) (ht : v'.ownBlock = v3.ownBlock ∨ v'.ownBlock = some w.heap.size) :
    Vr (w2.setCell ⟨vb, 3, none⟩ v') zb vb v0 v1 v2 v' L0 L1 L2 (L3 ++ [x]) ∧ Fr (fun q => q = vb ∨ v3.ownBlock = some q) w (w2.setCell ⟨vb, 3, none⟩ v') := by
  have fg : Fr (fun q => v3.ownBlock = some q) w w2 := (Fr.refl _ w).grown hg fun _ hk => .inl hk
  have hvb : ∀ q, v3.ownBlock = some q → q ≠ vb := fun q hq e => wide_is_ne h.o3 h.is (by decide) (e ▸ hq)
  have i2 := h.is.fr fg fun hq => hvb _ hq rfl
  have fs := (Fr.refl (fun q => q = vb) w2).setCell (p := ⟨vb, 3, none⟩) (.inl rfl) v'
  have far : ∀ {n : Nat} {u : Value} {xs : List Value}, w.ownsRow zb 59 3 u n xs → Ap v3 u → (w2.setCell ⟨vb, 3, none⟩ v').ownsRow zb 59 3 u n xs := fun hu ap =>
    wide_fr (wide_fr hu fg fun q hq e => ap q e hq) fs fun q hq e => wide_is_ne hu h.is (by decide) (e ▸ hq)
  have on : (w2.setCell ⟨vb, 3, none⟩ v').ownsRow zb 59 3 v' (L3 ++ [x]).length (cellsL (L3 ++ [x])) := by
    rw [cellsL_snoc, List.length_append]
    exact wide_fr ho fs fun q hq e => wide_is_ne ho i2 (by decide) (e ▸ hq)
  refine ⟨⟨i2.set 3 v', h.hz, far h.o0 h.n03.symm, far h.o1 h.n13.symm, far h.o2 h.n23.symm, on, h.n01, h.n02, (Ap.new h.n03.symm h.o0 ht).symm, h.n12, (Ap.new h.n13.symm h.o1 ht).symm, (Ap.new h.n23.symm h.o2 ht).symm⟩, (fg.mono fun _ _ h => .inr h).trans fs fun _ _ h => .inl h⟩
theorem Vr.fr1 {w w1 : World} {zb vb g : Nat} {v0 v1 v2 v3 : Value} {L0 L1 L2 L3 : List Lk} {cs : Array Value} (h : Vr w zb vb v0 v1 v2 v3 L0 L1 L2 L3) (hg : Is w g 55 cs) (hne : vb ≠ g) (f : Fr (fun q => q = g) w w1) : Vr w1 zb vb v0 v1 v2 v3 L0 L1 L2 L3 :=
  have far : ∀ {n : Nat} {u : Value} {xs : List Value}, w.ownsRow zb 59 3 u n xs → w1.ownsRow zb 59 3 u n xs := fun hu => wide_fr hu f fun _ hq e => wide_is_ne hu hg (by decide) (e ▸ hq)
  { h with is := h.is.fr f hne, o0 := far h.o0, o1 := far h.o1, o2 := far h.o2, o3 := far h.o3 }
/-- what a row is turned leaves a box of views -/
theorem row_ne {w : World} {zb n : Nat} {v : Value} {xs : List Value} (h : w.ownsRow zb 59 3 v n xs) {b : Nat} {t : TypeId} {cs : Array Value} (hb : Is w b t cs) (ht : 59 ≠ t) : ∀ q, v.ownBlock = some q → q ≠ b := fun _ hq e => wide_is_ne h hb ht (e ▸ hq)
end Go.Proofs.Ytfmhfngilimhjaa.Im

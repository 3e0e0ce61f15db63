/- Cuts, plainly: what of a list of cuts counts for an act; how a map reads that holds it. -/
import Derived.Test.YtdoljggaoidljaaGreatActs
namespace Go.Proofs.YtdoljggaoidljaaGreat
open Go.RowKit Go.Maps
set_option maxRecDepth 100000

/-- of the cuts with this At the least Part -/
def cutStep (i : Int) (a : Option Int) (c : Int × Int) : Option Int := if c.1 = i then some (match a with | none => c.2 | some x => if c.2 < x then c.2 else x) else a
def cutAt (l : List (Int × Int)) (i : Int) : Option Int := l.foldl (cutStep i) none
theorem cutAt_snoc (l : List (Int × Int)) (c : Int × Int) (i : Int) : cutAt (l ++ [c]) i = cutStep i (cutAt l i) c := by
  unfold cutAt
  rw [List.foldl_append]
  rfl
theorem cutAt_take (l : List (Int × Int)) (k : Nat) (h : k < l.length) (i : Int) : cutAt (l.take (k + 1)) i = cutStep i (cutAt (l.take k) i) l[k] := by
  rw [List.take_succ_eq_append_getElem h, cutAt_snoc]

/-- the datum of a map that reads as C -/
def ReadsC (D : DataW Unit) (C : Int → Option Int) : Prop := ∀ i, (ki i).wf = true → match C i with
  | none => Maps.has D (ki i) = false ∧ D.atKey (ki i) (.lit (ki 0)) = .lit (ki 0)
  | some x => Maps.has D (ki i) = true ∧ D.atKey (ki i) (.lit (ki 0)) = .lit (ki x) ∧ (ki x).wf = true
theorem readsC_nil : ReadsC (.map []) (cutAt []) := fun _ _ => ⟨rfl, Maps.atKey_of_not_has rfl _⟩
theorem keyLit (i : Int) : WideAt.IsKeyLit (ki i) := by
  simp [WideAt.IsKeyLit]
theorem readsC_put {D : DataW Unit} {C C' : Int → Option Int} (h : ReadsC D C) (hD : Maps.IsMap D) (a p : Int) (hp : (ki p).wf = true) (h1 : C' a = some p) (h2 : ∀ i, i ≠ a → C' i = C i) : ReadsC (D.put (ki a) (.lit (ki p))) C' := by
  intro i hi
  by_cases e : i = a
  · subst e
    rw [h1]
    exact ⟨Maps.has_put_same hD (keyLit i) _, Maps.atKey_put_same hD (keyLit i) _ _, hp⟩
  · have hne : ki i ≠ ki a := fun k => e (by injection k)
    rw [h2 i e]
    have := h i hi
    rw [Maps.has_put_other hne, Maps.atKey_put_other hne]
    exact this
theorem readsC_same {D : DataW Unit} {C C' : Int → Option Int} (h : ReadsC D C) (h2 : ∀ i, C' i = C i) : ReadsC D C' := by
  intro i hi
  rw [h2 i]
  exact h i hi
theorem cuts_of {w : World} {k n : Nat} {D : DataW Unit} {C : Int → Option Int} (ho : w.ownsMap Tryz.prog 3 (plainElem Tryz.prog 3) k n D) (h : ReadsC D C) : Cuts w (some k) fun i => C (i : Int) := by
  refine ⟨n, D, ho, fun i hi => ?_⟩
  have := h (i : Int) (wf_nat i hi)
  cases hc : C (i : Int) with
  | none => rw [hc] at this; simp only [hc]; exact this.1
  | some x => rw [hc] at this; simp only [hc]; exact this
/-- what a look-up answers -/
theorem look_run {w : World} {k n : Nat} {D : DataW Unit} {i a : Int} (ho : w.ownsMap Tryz.prog 3 (plainElem Tryz.prog 3) k n D) (hi : (ki i).wf = true) (ha : D.atKey (ki i) (.lit (ki 0)) = .lit (ki a)) :
    (Instr.lookup 55 (.map (some k)) (.int .i64 i) true).run Tryz.prog w = .ok (.tuple #[.int .i64 a, .bool (Maps.has D (ki i))]) w := by
  obtain ⟨v, ps, hrun, hv⟩ := ho.look_ok keyI Tryz.underlying55 (zeroI w) (plainElem_int Tryz.underlying3 (by decide)) (keyOf_int_mk Tryz.underlying3 hi)
  obtain ⟨c, rfl, hc, _⟩ := plainElem_int_inv Tryz.underlying3 hv
  have hc1 := congrArg Prod.fst hc
  have e : (DataW.lit (ki a) : DataW Unit) = .lit (.int .i64 c) := ha.symm.trans hc1
  injection e with e
  injection e with _ e
  rw [hrun, e]
end Go.Proofs.YtdoljggaoidljaaGreat

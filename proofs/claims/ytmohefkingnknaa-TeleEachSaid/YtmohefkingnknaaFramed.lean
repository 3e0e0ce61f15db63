/- A region that draws its order, whose calls may make memory but leave all that was there: walked once, in the text's order. The class of worlds: those that a frame leads to. Nothing here speaks of the program. -/
import Derived.Test.YtmohefkingnknaaHeap
import Derived.Deep.QuietTactic
import Derived.BigQuiet
namespace Go.Proofs.Ytmohefkingnknaa
open Go.RowKit

/-- a world to which a frame leads from wo -/
structure Fro (wo : World) where
  w : World
  f : Fr (fun _ => False) wo w
instance (wo : World) : Nonempty (Fro wo) := ⟨⟨wo, Fr.refl _ _⟩⟩

theorem region_fro {P : Program} {id : Nat} {Q : Exit → Act → World → Prop} {a : Act} {w : World} {l : List Oper} (hm : P.follows .mixedOrders = true) (hB : Region.lexB .any l.toArray = true)
    (h : wpQuiet P l.toArray (fun w' => ∃ u : Fro w, w' = u.w) (fun a' => ∀ w', (∃ u : Fro w, w' = u.w) → Q .normal a' w') l a) : (Code.region id l.toArray true).wp P Q a w :=
  wp_region_quiet (C := fun w' => ∃ u : Fro w, w' = u.w) hm hB ⟨⟨w.drew, (Fr.refl _ _).drew⟩, rfl⟩ (by simpa using h)
theorem call_fro {P : Program} {f : FuncId} {args : Array Value} {v : Value} {wo : World} {u : Fro wo} (h : Calls P f args u.w fun e w' => e = .returned v ∧ Fr (fun _ => False) u.w w') :
    Calls P f args u.w fun e w'' => e = .returned v ∧ ∃ m : Fro wo, w'' = m.w :=
  h.mono fun _ w'' ⟨he, hf⟩ => ⟨he, ⟨w'', u.f.trans hf fun _ _ h => h⟩, rfl⟩
theorem call_fro_same {P : Program} {f : FuncId} {args : Array Value} {v : Value} {wo : World} {u : Fro wo} (h : Calls P f args u.w fun e w' => e = .returned v ∧ u.w = w') :
    Calls P f args u.w fun e w'' => e = .returned v ∧ ∃ m : Fro wo, w'' = m.w :=
  h.mono fun _ _ ⟨he, hf⟩ => ⟨he, u, hf.symm⟩
theorem cell_fro {wo : World} {p : Addr} {v : Value} (h : wo.cell? p = some v) : ∀ u : Fro wo, u.w.cell? p = some v := fun u =>
  (u.f.cell (World.block_lt_of_cell? _ p h) id).trans h
theorem rd_fro {wo : World} {A : Option Addr} {xs : List Value} (h : Rd wo A xs) : ∀ u : Fro wo, Rd u.w A xs := fun u => h.fr u.f fun _ _ => id
end Go.Proofs.Ytmohefkingnknaa

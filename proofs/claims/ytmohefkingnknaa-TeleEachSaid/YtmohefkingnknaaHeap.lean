/- Own words for memory: a frame 'Fr' (all blocks but those of a set are as they were), rows of bytes, laws on appending to a row of the call's own. Nothing here speaks of the program. -/
import Derived.WalkKit
import Derived.Maps.AppendAt
import Derived.Deep.AppendSrc
import Derived.Laws.IdiomStrings
namespace Go.Proofs.Ytmohefkingnknaa
open Go.RowKit

/-- A byte as a cell. -/
def B (x : UInt8) : Value := .int .u8 (x.toNat : Int)

/-- All that was there, but the blocks of S, is as it was. -/
structure Fr (S : Nat → Prop) (w w' : World) : Prop where
  os : w'.os = w.os
  tape : w'.tape = w.tape
  output : w'.output = w.output
  size : w.heap.size ≤ w'.heap.size
  block : ∀ k, k < w.heap.size → ¬ S k → w'.heap[k]? = w.heap[k]?

namespace Fr
variable {S S' S'' : Nat → Prop} {w w1 w2 : World}
theorem refl (S : Nat → Prop) (w : World) : Fr S w w := ⟨rfl, rfl, rfl, Nat.le_refl _, fun _ _ _ => rfl⟩
theorem mono (h : Fr S w w1) (hs : ∀ k, k < w.heap.size → S k → S' k) : Fr S' w w1 := ⟨h.os, h.tape, h.output, h.size, fun k hk hn => h.block k hk fun e => hn (hs k hk e)⟩
theorem trans (h : Fr S w w1) (k : Fr S' w1 w2) (hs : ∀ k, k < w.heap.size → S' k → S k) : Fr S w w2 :=
  ⟨k.os.trans h.os, k.tape.trans h.tape, k.output.trans h.output, Nat.le_trans h.size k.size, fun i hi hn => (k.block i (Nat.lt_of_lt_of_le hi h.size) fun e => hn (hs i hi e)).trans (h.block i hi hn)⟩
theorem drew (h : Fr S w w1) : Fr S w w1.drew := ⟨h.os, h.tape, h.output, h.size, h.block⟩
theorem alloc (h : Fr S w w1) (o : Obj) : Fr S w (w1.alloc o) :=
  h.trans (S' := fun _ => False) ⟨rfl, rfl, rfl, by simp, fun k hk _ => Below.heap_alloc _ _ _ hk⟩ (fun _ _ h => h.elim)
theorem setCell (h : Fr S w w1) {p : Addr} (hp : S p.block ∨ w.heap.size ≤ p.block) (u : Value) : Fr S w (w1.setCell p u) :=
  ⟨h.os, h.tape, h.output, by simpa [World.setCell] using h.size, fun i hi hn => (Below.heap_setCell w1 p u i (by
    rintro rfl
    rcases hp with hp | hp
    · exact hn hp
    · omega)).trans (h.block i hi hn)⟩
theorem grown (h : Fr S w w1) {row : Option Nat} (hg : w1.grownBy w2 row) (hr : ∀ k, row = some k → S k ∨ w.heap.size ≤ k) : Fr S w w2 :=
  ⟨hg.os.trans h.os, hg.tape.trans h.tape, hg.output.trans h.output, Nat.le_trans h.size hg.size, fun i hi hn => (hg.block i (Nat.lt_of_lt_of_le hi h.size) (fun e => by
    rcases hr i e.symm with k | k
    · exact hn k
    · omega)).trans (h.block i hi hn)⟩
theorem below {B : Nat} (h : Below B w w1) : Fr (fun k => B ≤ k) w w1 := ⟨h.os, h.tape, h.output, h.size, fun k _ hk => h.block k (by omega)⟩
theorem toBelow (h : Fr (fun k => w.heap.size ≤ k) w w1) : Below w.heap.size w w1 := ⟨h.os, h.tape, h.output, h.size, fun k hk => h.block k hk (by omega)⟩
theorem toBelow0 (h : Fr (fun _ => False) w w1) : Below w.heap.size w w1 := ⟨h.os, h.tape, h.output, h.size, fun k hk => h.block k hk id⟩
theorem ofBelow (h : Below w.heap.size w w1) : Fr S w w1 := ⟨h.os, h.tape, h.output, h.size, fun k hk _ => h.block k hk⟩
theorem cell (h : Fr S w w1) {p : Addr} (hp : p.block < w.heap.size) (hn : ¬ S p.block) : w1.cell? p = w.cell? p := World.cell?_of_block (h.block p.block hp hn)
end Fr

/-- A whole block, no cell of it frozen. -/
def Is (w : World) (b : Nat) (t : TypeId) (cs : Array Value) : Prop := w.heap[b]? = some (.cells cs t (0, 0))
namespace Is
variable {w w1 : World} {b : Nat} {t : TypeId} {cs : Array Value}
theorem lt (h : Is w b t cs) : b < w.heap.size := lt_of_block h
theorem cell (h : Is w b t cs) (i : Nat) : w.cell? ⟨b, i, none⟩ = cs[i]? := cell_of_row w b i cs t (0, 0) h
theorem frozen (h : Is w b t cs) (i : Nat) : w.frozen? ⟨b, i, none⟩ = false := frozen_of_row w b i cs t h
theorem fr {S : Nat → Prop} (h : Is w b t cs) (f : Fr S w w1) (hn : ¬ S b) : Is w1 b t cs := (f.block b h.lt hn).trans h
theorem new (w : World) (t : TypeId) (cs : Array Value) : Is (w.alloc (.cells cs t)) w.heap.size t cs := heap_alloc_new w _
theorem alloc (h : Is w b t cs) (o : Obj) : Is (w.alloc o) b t cs := (Below.heap_alloc w o b h.lt).trans h
theorem drew (h : Is w b t cs) : Is w.drew b t cs := h
theorem set (h : Is w b t cs) (i : Nat) (u : Value) : Is (w.setCell ⟨b, i, none⟩ u) b t (cs.setIfInBounds i u) := by
  unfold Is at h ⊢
  simp [World.setCell, Array.getElem?_modify, h]
theorem far (h : Is w b t cs) {p : Addr} (hp : b ≠ p.block) (u : Value) : Is (w.setCell p u) b t cs := (Below.heap_setCell w p u b hp).trans h
end Is

/-- The block of an address that may be missing. -/
def blk (A : Option Addr) : Option Nat := A.map (·.block)

/-- The slice value with this address and this capacity owns the bytes bs (e: the type of a byte): nil, or the head of a row. -/
def Row (e : TypeId) (w : World) (A : Option Addr) (c : Nat) (bs : List UInt8) : Prop := w.ownsRow 0 e 1 (.slice A bs.length c) bs.length (bs.map B)
namespace Row
variable {e : TypeId} {w w1 : World} {A : Option Addr} {c : Nat} {bs : List UInt8}
theorem nil (e : TypeId) (w : World) : Row e w none 0 [] := World.ownsRow_nil w 0 e 1
theorem own (A : Option Addr) (n c : Nat) : (Value.slice A n c).ownBlock = blk A := by cases A <;> rfl
theorem lt (h : Row e w A c bs) : ∀ k, blk A = some k → k < w.heap.size := fun k hk => (World.ownsRow.lt h k (by rw [own]; exact hk)).2
theorem fr {S : Nat → Prop} (h : Row e w A c bs) (f : Fr S w w1) (hn : ∀ k, blk A = some k → ¬ S k) : Row e w1 A c bs := by
  refine ⟨h.1, ?_⟩
  rcases h.2 with k | ⟨g, cap, cur, hv, hb, hg, r⟩
  · exact .inl k
  · refine .inr ⟨g, cap, cur, hv, hb, ?_, r⟩
    have : A = some ⟨g, 0, none⟩ := by injection hv
    rw [f.block g (lt_of_block hg) (hn g (by rw [this]; rfl))]
    exact hg
theorem ne {b : Nat} {t : TypeId} {cs : Array Value} (h : Row e w A c bs) (k : Is w b t cs) (ht : e ≠ t) : blk A ≠ some b := by
  intro ha
  rcases h.2 with ⟨hv, _⟩ | ⟨g, cap, cur, hv, _, hg, _⟩
  · have : A = none := by injection hv
    rw [this] at ha; cases ha
  · have : A = some ⟨g, 0, none⟩ := by injection hv
    rw [this] at ha
    have hgb : g = b := by simpa [blk] using ha
    subst hgb
    unfold Is at k
    rw [hg] at k
    injection k with k
    injection k with _ k
    exact ht k
theorem cells (h : Row e w A c bs) (a : Addr) (ha : A = some a) : ∀ j (hj : j < bs.length), w.cell? (a.add j) = some (.int .u8 (bs[j].toNat : Int)) := by
  intro j hj
  rcases h.2 with ⟨hv, _⟩ | ⟨g, cap, cur, hv, _, hg, _⟩
  · have : A = none := by injection hv
    rw [this] at ha; cases ha
  · have hA : A = some ⟨g, 0, none⟩ := by injection hv
    have hag : a = ⟨g, 0, none⟩ := by rw [hA] at ha; injection ha with ha; exact ha.symm
    subst hag
    exact World.ownsRow.cells h (g := g) (by rw [own, hA]; rfl) j _ (by rw [List.getElem?_map, List.getElem?_eq_getElem hj]; rfl)
/-- its bytes as a text -/
theorem text {P : Program} (h : Row e w A c bs) {src dst : TypeId} (hs : P.underlying src = some (.slice e)) (he : P.underlying e = some (.int .u8)) (hd : P.underlying dst = some .string) :
    (convert src dst (.slice A bs.length c)).run P w = .ok (.string ⟨bs.toArray⟩) w := by
  rcases A with _ | a
  · have hl : bs.length = 0 := by
      rcases h.2 with ⟨_, k⟩ | ⟨g, cap, cur, hv, _⟩
      · exact k
      · injection hv with hv; cases hv
    have : bs = [] := List.eq_nil_of_length_eq_zero hl
    subst this
    rw [run_convert_bytes_string w src dst e none _ c hs he hd]
    simp [Conv.bytesToString]
    rfl
  · exact run_convert_bytes_back w src dst e a c bs hs he hd (h.cells a rfl)
end Row

/-- A slice that is read: n cells from an address on, in a block that was there. -/
def Rd (w : World) (A : Option Addr) (xs : List Value) : Prop := 0 < xs.length → ∃ b o, A = some ⟨b, o, none⟩ ∧ b < w.heap.size ∧ ∀ j u, xs[j]? = some u → w.cell? ⟨b, o + j, none⟩ = some u
namespace Rd
variable {w w1 : World} {A : Option Addr} {xs : List Value}
theorem fr {S : Nat → Prop} (h : Rd w A xs) (f : Fr S w w1) (hn : ∀ k, blk A = some k → ¬ S k) : Rd w1 A xs := fun h0 => by
  obtain ⟨b, o, hA, hb, hc⟩ := h h0
  refine ⟨b, o, hA, Nat.lt_of_lt_of_le hb f.size, fun j u hu => ?_⟩
  rw [f.cell (p := ⟨b, o + j, none⟩) hb (hn b (by rw [hA]; rfl))]
  exact hc j u hu
theorem one (w : World) (x : Value) (t : TypeId) : Rd (w.alloc (.cells #[x] t)) (some ⟨w.heap.size, 0, none⟩) [x] := fun _ =>
  ⟨w.heap.size, 0, rfl, by simp, fun j u hu => by
    have hj : j = 0 := by
      have := (List.getElem?_eq_some_iff.1 hu).1
      simpa using this
    subst hj
    simp at hu
    subst hu
    simp [World.cell?_alloc_at]⟩
theorem ofRow {e : TypeId} {c : Nat} {bs : List UInt8} (h : Row e w A c bs) : Rd w A (bs.map B) := fun h0 => by
  rcases h.2 with ⟨_, k⟩ | ⟨g, cap, cur, hv, _, hg, _⟩
  · simp at h0; omega
  · have hA : A = some ⟨g, 0, none⟩ := by injection hv
    refine ⟨g, 0, hA, lt_of_block hg, fun j u hu => ?_⟩
    have k := World.ownsRow.cells h (g := g) (by rw [Row.own, hA]; rfl) j u hu
    have e : (⟨g, 0, none⟩ : Addr).add j = ⟨g, 0 + j, none⟩ := by unfold Addr.add; split <;> simp_all
    rw [e] at k
    exact k
end Rd
end Go.Proofs.Ytmohefkingnknaa

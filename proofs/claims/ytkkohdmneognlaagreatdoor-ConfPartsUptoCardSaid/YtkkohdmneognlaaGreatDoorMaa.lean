/- Own words for memory: a frame 'Fr' (all blocks but those of a set are as they were), rows of bytes, laws on appending to a row of the call's own. Nothing here speaks of the program. -/
import Derived.WalkKit
import Derived.Maps.AppendAt
import Derived.Deep.AppendSrc
import Derived.Laws.IdiomStrings
import Derived.Test.YtkkohdmneognlaaGreatDoorRows
import Derived.ProofKit
import Derived.OpenShut
import Derived.Lib.Hide
import Derived.Deep.QuietTactic
import Derived.BigQuiet
import Derived.IntWalk
import Derived.Deep.RegionLaw
import Derived.Lib.SliceRun
import Derived.KernelRfl
import Derived.Outline
namespace Go.Proofs.YtkkohdmneognlaaGreatDoor
open Go.RowKit

/-- A byte as a cell. -/
def B (x : UInt8) : Value := .int .u8 (x.toNat : Int)

/-- All that was there, but the blocks of S, is as it was. -/
structure Fr (S : Nat → Prop) (w w' : World) : Prop where
  os : w'.os = w.os
  tape : w'.tape = w.tape
  output : w'.output = w.output
  size : w.heap.size ≤ w'.heap.size
  block : ∀ k, k < w.heap.size → ¬ S k → w'.heap[k]? = w.heap[k]?

namespace Fr
variable {S S' S'' : Nat → Prop} {w w1 w2 : World}
theorem refl (S : Nat → Prop) (w : World) : Fr S w w := ⟨rfl, rfl, rfl, Nat.le_refl _, fun _ _ _ => rfl⟩
theorem mono (h : Fr S w w1) (hs : ∀ k, k < w.heap.size → S k → S' k) : Fr S' w w1 := ⟨h.os, h.tape, h.output, h.size, fun k hk hn => h.block k hk fun e => hn (hs k hk e)⟩
theorem trans (h : Fr S w w1) (k : Fr S' w1 w2) (hs : ∀ k, k < w.heap.size → S' k → S k) : Fr S w w2 :=
  ⟨k.os.trans h.os, k.tape.trans h.tape, k.output.trans h.output, Nat.le_trans h.size k.size, fun i hi hn => (k.block i (Nat.lt_of_lt_of_le hi h.size) fun e => hn (hs i hi e)).trans (h.block i hi hn)⟩
theorem drew (h : Fr S w w1) : Fr S w w1.drew := ⟨h.os, h.tape, h.output, h.size, h.block⟩
theorem alloc (h : Fr S w w1) (o : Obj) : Fr S w (w1.alloc o) :=
  h.trans (S' := fun _ => False) ⟨rfl, rfl, rfl, by simp, fun k hk _ => Below.heap_alloc _ _ _ hk⟩ (fun _ _ h => h.elim)
theorem setCell (h : Fr S w w1) {p : Addr} (hp : S p.block ∨ w.heap.size ≤ p.block) (u : Value) : Fr S w (w1.setCell p u) :=
  ⟨h.os, h.tape, h.output, by simpa [World.setCell] using h.size, fun i hi hn => (Below.heap_setCell w1 p u i (by
    rintro rfl
    rcases hp with hp | hp
    · exact hn hp
    · omega)).trans (h.block i hi hn)⟩
theorem grown (h : Fr S w w1) {row : Option Nat} (hg : w1.grownBy w2 row) (hr : ∀ k, row = some k → S k ∨ w.heap.size ≤ k) : Fr S w w2 :=
  ⟨hg.os.trans h.os, hg.tape.trans h.tape, hg.output.trans h.output, Nat.le_trans h.size hg.size, fun i hi hn => (hg.block i (Nat.lt_of_lt_of_le hi h.size) (fun e => by
    rcases hr i e.symm with k | k
    · exact hn k
    · omega)).trans (h.block i hi hn)⟩
theorem below {B : Nat} (h : Below B w w1) : Fr (fun k => B ≤ k) w w1 := ⟨h.os, h.tape, h.output, h.size, fun k _ hk => h.block k (by omega)⟩
theorem toBelow (h : Fr (fun k => w.heap.size ≤ k) w w1) : Below w.heap.size w w1 := ⟨h.os, h.tape, h.output, h.size, fun k hk => h.block k hk (by omega)⟩
theorem toBelow0 (h : Fr (fun _ => False) w w1) : Below w.heap.size w w1 := ⟨h.os, h.tape, h.output, h.size, fun k hk => h.block k hk id⟩
theorem ofBelow (h : Below w.heap.size w w1) : Fr S w w1 := ⟨h.os, h.tape, h.output, h.size, fun k hk _ => h.block k hk⟩
theorem cell (h : Fr S w w1) {p : Addr} (hp : p.block < w.heap.size) (hn : ¬ S p.block) : w1.cell? p = w.cell? p := World.cell?_of_block (h.block p.block hp hn)
end Fr

/-- A whole block, no cell of it frozen. -/
def Is (w : World) (b : Nat) (t : TypeId) (cs : Array Value) : Prop := w.heap[b]? = some (.cells cs t (0, 0))
namespace Is
variable {w w1 : World} {b : Nat} {t : TypeId} {cs : Array Value}
theorem lt (h : Is w b t cs) : b < w.heap.size := lt_of_block h
theorem cell (h : Is w b t cs) (i : Nat) : w.cell? ⟨b, i, none⟩ = cs[i]? := cell_of_row w b i cs t (0, 0) h
theorem frozen (h : Is w b t cs) (i : Nat) : w.frozen? ⟨b, i, none⟩ = false := frozen_of_row w b i cs t h
theorem fr {S : Nat → Prop} (h : Is w b t cs) (f : Fr S w w1) (hn : ¬ S b) : Is w1 b t cs := (f.block b h.lt hn).trans h
theorem new (w : World) (t : TypeId) (cs : Array Value) : Is (w.alloc (.cells cs t)) w.heap.size t cs := heap_alloc_new w _
theorem alloc (h : Is w b t cs) (o : Obj) : Is (w.alloc o) b t cs := (Below.heap_alloc w o b h.lt).trans h
theorem drew (h : Is w b t cs) : Is w.drew b t cs := h
theorem set (h : Is w b t cs) (i : Nat) (u : Value) : Is (w.setCell ⟨b, i, none⟩ u) b t (cs.setIfInBounds i u) := by
  unfold Is at h ⊢
  simp [World.setCell, Array.getElem?_modify, h]
theorem far (h : Is w b t cs) {p : Addr} (hp : b ≠ p.block) (u : Value) : Is (w.setCell p u) b t cs := (Below.heap_setCell w p u b hp).trans h
end Is

/-- The block of an address that may be missing. -/
def blk (A : Option Addr) : Option Nat := A.map (·.block)

/-- The slice value with this address and this capacity owns the bytes bs (e: the type of a byte): nil, or the head of a row. -/
def Row (e : TypeId) (w : World) (A : Option Addr) (c : Nat) (bs : List UInt8) : Prop := w.ownsRow 0 e 1 (.slice A bs.length c) bs.length (bs.map B)
namespace Row
variable {e : TypeId} {w w1 : World} {A : Option Addr} {c : Nat} {bs : List UInt8}
theorem nil (e : TypeId) (w : World) : Row e w none 0 [] := World.ownsRow_nil w 0 e 1
theorem own (A : Option Addr) (n c : Nat) : (Value.slice A n c).ownBlock = blk A := by cases A <;> rfl
theorem lt (h : Row e w A c bs) : ∀ k, blk A = some k → k < w.heap.size := fun k hk => (World.ownsRow.lt h k (by rw [own]; exact hk)).2
theorem fr {S : Nat → Prop} (h : Row e w A c bs) (f : Fr S w w1) (hn : ∀ k, blk A = some k → ¬ S k) : Row e w1 A c bs := by
  refine ⟨h.1, ?_⟩
  rcases h.2 with k | ⟨g, cap, cur, hv, hb, hg, r⟩
  · exact .inl k
  · refine .inr ⟨g, cap, cur, hv, hb, ?_, r⟩
    have : A = some ⟨g, 0, none⟩ := by injection hv
    rw [f.block g (lt_of_block hg) (hn g (by rw [this]; rfl))]
    exact hg
theorem ne {b : Nat} {t : TypeId} {cs : Array Value} (h : Row e w A c bs) (k : Is w b t cs) (ht : e ≠ t) : blk A ≠ some b := by
  intro ha
  rcases h.2 with ⟨hv, _⟩ | ⟨g, cap, cur, hv, _, hg, _⟩
  · have : A = none := by injection hv
    rw [this] at ha; cases ha
  · have : A = some ⟨g, 0, none⟩ := by injection hv
    rw [this] at ha
    have hgb : g = b := by simpa [blk] using ha
    subst hgb
    unfold Is at k
    rw [hg] at k
    injection k with k
    injection k with _ k
    exact ht k
theorem cells (h : Row e w A c bs) (a : Addr) (ha : A = some a) : ∀ j (hj : j < bs.length), w.cell? (a.add j) = some (.int .u8 (bs[j].toNat : Int)) := by
  intro j hj
  rcases h.2 with ⟨hv, _⟩ | ⟨g, cap, cur, hv, _, hg, _⟩
  · have : A = none := by injection hv
    rw [this] at ha; cases ha
  · have hA : A = some ⟨g, 0, none⟩ := by injection hv
    have hag : a = ⟨g, 0, none⟩ := by rw [hA] at ha; injection ha with ha; exact ha.symm
    subst hag
    exact World.ownsRow.cells h (g := g) (by rw [own, hA]; rfl) j _ (by rw [List.getElem?_map, List.getElem?_eq_getElem hj]; rfl)
/-- its bytes as a text -/
theorem text {P : Program} (h : Row e w A c bs) {src dst : TypeId} (hs : P.underlying src = some (.slice e)) (he : P.underlying e = some (.int .u8)) (hd : P.underlying dst = some .string) :
    (convert src dst (.slice A bs.length c)).run P w = .ok (.string ⟨bs.toArray⟩) w := by
  rcases A with _ | a
  · have hl : bs.length = 0 := by
      rcases h.2 with ⟨_, k⟩ | ⟨g, cap, cur, hv, _⟩
      · exact k
      · injection hv with hv; cases hv
    have : bs = [] := List.eq_nil_of_length_eq_zero hl
    subst this
    rw [run_convert_bytes_string w src dst e none _ c hs he hd]
    simp [Conv.bytesToString]
    rfl
  · exact run_convert_bytes_back w src dst e a c bs hs he hd (h.cells a rfl)
end Row

/-- A slice that is read: n cells from an address on, in a block that was there. -/
def Rd (w : World) (A : Option Addr) (xs : List Value) : Prop := 0 < xs.length → ∃ b o, A = some ⟨b, o, none⟩ ∧ b < w.heap.size ∧ ∀ j u, xs[j]? = some u → w.cell? ⟨b, o + j, none⟩ = some u
namespace Rd
variable {w w1 : World} {A : Option Addr} {xs : List Value}
theorem fr {S : Nat → Prop} (h : Rd w A xs) (f : Fr S w w1) (hn : ∀ k, blk A = some k → ¬ S k) : Rd w1 A xs := fun h0 => by
  obtain ⟨b, o, hA, hb, hc⟩ := h h0
  refine ⟨b, o, hA, Nat.lt_of_lt_of_le hb f.size, fun j u hu => ?_⟩
  rw [f.cell (p := ⟨b, o + j, none⟩) hb (hn b (by rw [hA]; rfl))]
  exact hc j u hu
theorem one (w : World) (x : Value) (t : TypeId) : Rd (w.alloc (.cells #[x] t)) (some ⟨w.heap.size, 0, none⟩) [x] := fun _ =>
  ⟨w.heap.size, 0, rfl, by simp, fun j u hu => by
    have hj : j = 0 := by
      have := (List.getElem?_eq_some_iff.1 hu).1
      simpa using this
    subst hj
    simp at hu
    subst hu
    simp [World.cell?_alloc_at]⟩
theorem ofRow {e : TypeId} {c : Nat} {bs : List UInt8} (h : Row e w A c bs) : Rd w A (bs.map B) := fun h0 => by
  rcases h.2 with ⟨_, k⟩ | ⟨g, cap, cur, hv, _, hg, _⟩
  · simp at h0; omega
  · have hA : A = some ⟨g, 0, none⟩ := by injection hv
    refine ⟨g, 0, hA, lt_of_block hg, fun j u hu => ?_⟩
    have k := World.ownsRow.cells h (g := g) (by rw [Row.own, hA]; rfl) j u hu
    have e : (⟨g, 0, none⟩ : Addr).add j = ⟨g, 0 + j, none⟩ := by unfold Addr.add; split <;> simp_all
    rw [e] at k
    exact k
end Rd
end Go.Proofs.YtkkohdmneognlaaGreatDoor
/- General words for walks: texts as lists of bytes, rows that a call lays, reading, appending, converting. Nothing here speaks of one program's functions. -/
namespace Go.Proofs.YtkkohdmneognlaaGreatDoor
open Go.RowKit

theorem Tryz.infoB : (Tryz.prog.info? 5).map (fun i => (i.zero, i.size, i.bytes)) = some (some (.int .u8 0), 1, 1) := by kernel_rfl
theorem row_form {e : TypeId} {w : World} {v : Value} {n : Nat} {xs : List Value} (h : w.ownsRow 0 e 1 v n xs) : ∃ A c, v = .slice A n c := by
  rcases h.2 with ⟨hv, h0⟩ | ⟨g, cap, cur, hv, _⟩
  · exact ⟨none, 0, by rw [hv, h0]⟩
  · exact ⟨_, _, hv⟩

/-- the bytes of a text -/
def bytesOf (s : ByteArray) : List UInt8 := s.data.toList
theorem bytesOf_length (s : ByteArray) : (bytesOf s).length = s.size := by unfold bytesOf; rw [Array.length_toList]; rfl
theorem bytesOf_mk (l : List UInt8) : bytesOf ⟨l.toArray⟩ = l := rfl
theorem bytesOf_inj {s t : ByteArray} (h : bytesOf s = bytesOf t) : s = t := by
  apply ByteArray.ext
  exact Array.ext' h
theorem mk_bytesOf (s : ByteArray) : (⟨(bytesOf s).toArray⟩ : ByteArray) = s := bytesOf_inj rfl
theorem bytesOf_empty : bytesOf ⟨#[]⟩ = [] := rfl
theorem bytesOf_extract (s : ByteArray) (a b : Nat) : bytesOf (s.extract a b) = ((bytesOf s).take b).drop a := by
  unfold bytesOf
  rw [ByteArray.data_extract, Array.toList_extract, List.extract_eq_take_drop, List.drop_take]
theorem bytesOf_append (s t : ByteArray) : bytesOf (s ++ t) = bytesOf s ++ bytesOf t := by
  unfold bytesOf
  rw [ByteArray.data_append, Array.toList_append]
theorem size_of (s : ByteArray) : s.size = (bytesOf s).length := (bytesOf_length s).symm
theorem toList_some {s : ByteArray} (h : s.size ≠ 0) : (!s.toList.isEmpty) = true := by
  have : s.toList ≠ [] := fun e => h (by rw [(toList_nil_iff_emptyBytes s).1 e]; rfl)
  simpa using this
theorem toList_none {s : ByteArray} (h : s.size = 0) : s.toList.isEmpty = true := by
  have e : s = ByteArray.empty := by
    apply ByteArray.ext
    exact Array.eq_empty_of_size_eq_zero h
  rw [e, (toList_nil_iff_emptyBytes ByteArray.empty).2 rfl]
  rfl
theorem bytes_at {s : ByteArray} {k : Nat} (h : k < s.size) : k < (bytesOf s).length := by rw [bytesOf_length]; exact h

theorem Fr.drewN {S : Nat → Prop} {w w1 : World} (h : Fr S w w1) (n : Nat) : Fr S w (w1.drewN n) := ⟨h.os, h.tape, h.output, h.size, h.block⟩

/-- what '[]byte(t)' lays, read byte by byte -/
theorem bytesRow_cell {w : World} {g : Nat} {t : ByteArray} {cap : Nat} {e : TypeId} {fr : Nat × Nat} (h : w.heap[g]? = some (.cells (bytesRow t cap) e fr)) (k : Nat) (hk : k < (bytesOf t).length) :
    w.cell? ⟨g, k, none⟩ = some (.int .u8 ((bytesOf t)[k].toNat : Int)) := by
  rw [cell_of_row w g k _ e fr h]
  have hs : k < t.data.size := by rw [bytesOf_length] at hk; exact hk
  have hs' : k < t.size := hs
  simp [bytesRow, bytesOf, Array.getElem?_append, hs']

theorem Rd.pre {w : World} {A : Option Addr} {xs ys : List Value} (h : Rd w A (xs ++ ys)) : Rd w A xs := fun h0 => by
  obtain ⟨b, o, hA, hb, hc⟩ := h (by rw [List.length_append]; omega)
  refine ⟨b, o, hA, hb, fun j u hu => hc j u ?_⟩
  rw [List.getElem?_append_left (List.getElem?_eq_some_iff.1 hu).1]
  exact hu
theorem Rd.at0 {w : World} {g : Nat} {xs : List Value} (h : Rd w (some ⟨g, 0, none⟩) xs) (j : Nat) (u : Value) (hu : xs[j]? = some u) : w.cell? ⟨g, j, none⟩ = some u := by
  obtain ⟨b, o, hA, hb, hc⟩ := h (by have := (List.getElem?_eq_some_iff.1 hu).1; omega)
  have k := hc j u hu
  injection hA with hA
  injection hA with h1 h2
  subst h1
  subst h2
  rw [Nat.zero_add] at k
  exact k
end Go.Proofs.YtkkohdmneognlaaGreatDoor
/- Rows of the call's own whose elements take any number of cells: appending what is read (also as a step of a region that draws), writing several cells of one block, clearing, dropping the head. Nothing here speaks of one program. -/
namespace Go.Proofs.YtkkohdmneognlaaGreatDoor
open Go.RowKit

section
variable {w w1 : World} {base size n : Nat} {e : TypeId} {v : Value} {xs : List Value}
theorem wide_fr {S : Nat → Prop} (h : w.ownsRow base e size v n xs) (f : Fr S w w1) (hn : ∀ k, v.ownBlock = some k → ¬ S k) : w1.ownsRow base e size v n xs := by
  refine ⟨h.1, ?_⟩
  rcases h.2 with k | ⟨g, cap, cur, hv, hb, hg, r⟩
  · exact .inl k
  · refine .inr ⟨g, cap, cur, hv, hb, ?_, r⟩
    rw [f.block g (lt_of_block hg) (hn g (by rw [hv]; rfl))]
    exact hg
theorem wide_lt (h : w.ownsRow base e size v n xs) : ∀ k, v.ownBlock = some k → k < w.heap.size := fun k hk => (World.ownsRow.lt h k hk).2
theorem wide_is_ne {b : Nat} {t : TypeId} {cs : Array Value} (h : w.ownsRow base e size v n xs) (k : Is w b t cs) (ht : e ≠ t) : v.ownBlock ≠ some b := by
  intro ha
  rcases h.2 with ⟨hv, _⟩ | ⟨g, cap, cur, hv, _, hg, _⟩
  · rw [hv] at ha; cases ha
  · rw [hv] at ha
    have hgb : g = b := by simpa [Value.ownBlock] using ha
    subst hgb
    unfold Is at k
    rw [hg] at k
    injection k with k
    injection k with _ k
    exact ht k
theorem wide_ne {b2 n2 s2 : Nat} {e2 : TypeId} {v2 : Value} {xs2 : List Value} (h1 : w.ownsRow base e size v n xs) (h2 : w.ownsRow b2 e2 s2 v2 n2 xs2) (he : e ≠ e2) : ∀ k, v.ownBlock = some k → v2.ownBlock ≠ some k := by
  intro k k1 k2
  rcases h1.2 with ⟨hv, _⟩ | ⟨g1, c1, u1, hv1, _, hg1, _⟩
  · rw [hv] at k1; cases k1
  · rcases h2.2 with ⟨hv, _⟩ | ⟨g2, c2, u2, hv2, _, hg2, _⟩
    · rw [hv] at k2; cases k2
    · rw [hv1] at k1
      rw [hv2] at k2
      have e1 : g1 = k := by simpa [Value.ownBlock] using k1
      have e2 : g2 = k := by simpa [Value.ownBlock] using k2
      rw [e1] at hg1
      rw [e2, hg1] at hg2
      injection hg2 with h
      injection h with _ h
      exact he h
theorem wide_form (h : w.ownsRow base e size v n xs) : ∃ A c, v = .slice A n c ∧ n ≤ c ∧ c ≤ maxLen ∧ (0 < n → ∃ g, A = some ⟨g, 0, none⟩ ∧ g < w.heap.size) ∧ (A = none → n = 0 ∧ c = 0) := by
  rcases h.2 with ⟨hv, h0⟩ | ⟨g, cap, cur, hv, _, hg, hnc, hm, _⟩
  · exact ⟨none, 0, by rw [hv, h0], by omega, by simp [maxLen], fun h => by omega, fun _ => ⟨h0, rfl⟩⟩
  · exact ⟨_, _, hv, hnc, hm, fun _ => ⟨g, rfl, lt_of_block hg⟩, fun h => by cases h⟩
theorem wide_rd {A : Option Addr} {c : Nat} (h : w.ownsRow base e size (.slice A n c) n xs) : Rd w A xs := fun h0 => by
  rcases h.2 with ⟨_, k⟩ | ⟨g, cap, cur, hv, _, hg, _⟩
  · have := h.1
    rw [k, Nat.zero_mul] at this
    omega
  · have hA : A = some ⟨g, 0, none⟩ := by injection hv
    refine ⟨g, 0, hA, lt_of_block hg, fun j u hu => ?_⟩
    have k := World.ownsRow.cells h (g := g) (by rw [Row.own, hA]; rfl) j u hu
    have e : (⟨g, 0, none⟩ : Addr).add j = ⟨g, 0 + j, none⟩ := by unfold Addr.add; split <;> simp_all
    rw [e] at k
    exact k
end

theorem run_append_wide {P : Program} (w : World) (base : Nat) (t ty e : TypeId) (i : TypeInfo) (z : Value) (size bytes : Nat) (ht : P.underlying t = some (.slice e)) (hi : P.info? e = some i) (hz : i.zero = some z)
    (hsize : i.size = size) (hby : i.bytes = bytes) (hzs : z.cells.size = size) (hs0 : 0 < size) (v : Value) (n : Nat) (xs : List Value) (hown : w.ownsRow base e size v n xs)
    (A : Option Addr) (c m : Nat) (news : List Value) (hm : news.length = m * size) (hr : Rd w A news) (h1 : ∀ u ∈ news, u.oneCell' = true) (h63 : n + m ≤ maxLen) (hbytes : (n + m) * bytes ≤ 140737488355328) (hbase : base ≤ w.heap.size) :
    ∃ v' w', (Builtin.append_ #[t, t] ty #[v, .slice A m c]).run P w = .ok v' w' ∧ w'.ownsRow base e size v' (n + m) (xs ++ news) ∧ w.grownBy w' v.ownBlock ∧ (v'.ownBlock = v.ownBlock ∨ v'.ownBlock = some w.heap.size) := by
  have hcells : ∀ a, A = some a → ∀ j u, news[j]? = some u → w.cell? (a.add j) = some u := by
    intro a hA j u hu
    have hpos : 0 < news.length := by have := (List.getElem?_eq_some_iff.1 hu).1; omega
    obtain ⟨b, o, hA', _, hc⟩ := hr hpos
    have ha : a = ⟨b, o, none⟩ := by rw [hA] at hA'; injection hA'
    have hx := hc j u hu
    rw [ha]
    unfold Addr.add
    split
    · rename_i hj; subst hj; exact hx
    · exact hx
  rcases A with _ | a
  · have h0 : news.length = 0 := by
      rcases Nat.eq_zero_or_pos news.length with h | h
      · exact h
      · obtain ⟨_, _, hA, _⟩ := hr h
        cases hA
    have hn : news = [] := List.eq_nil_of_length_eq_zero h0
    subst hn
    have hm0 : m = 0 := by
      rcases Nat.eq_zero_or_pos m with h | h
      · exact h
      · have := Nat.mul_pos h hs0
        simp at hm
        omega
    subst hm0
    refine ⟨v, w, ?_, by simpa using hown, World.grownBy.refl w _, .inl rfl⟩
    rcases hown.2 with ⟨rfl, rfl⟩ | ⟨g, cap, cur, rfl, _, _, hnc, _⟩
    · simp [Builtin.append_, run_underlying ht, sizeOf, typeInfo, hi, Builtin.lenOf, Builtin.firstCells]
    · simp [Builtin.append_, run_underlying ht, sizeOf, typeInfo, hi, Builtin.lenOf, Builtin.firstCells, hnc, storeCells]
  · obtain ⟨v', w', hrun, h2, h3, _, h5⟩ := run_append_own_at (P := P) w base t ty e i z size bytes ht hi hz hsize hby hzs hs0 v n xs hown a m c news hm (hcells a rfl) h1 h63 hbytes hbase
    exact ⟨v', w', hrun, h2, h3, h5⟩

theorem wp_append_wide {P : Program} (w : World) {o : Oper} {a : Act} {K : Act → World → Prop} {Q : Exit → Act → World → Prop} (s x : Operand) (t : TypeId)
    (ho : o.op = .call { callee := .builtin .append, args := #[s, x], argTypes := #[t, t] })
    (base : Nat) (e : TypeId) (i : TypeInfo) (z : Value) (size bytes : Nat) (ht : P.underlying t = some (.slice e)) (hi : P.info? e = some i) (hz : i.zero = some z)
    (hsize : i.size = size) (hby : i.bytes = bytes) (hzs : z.cells.size = size) (hs0 : 0 < size) (v : Value) (n : Nat) (xs : List Value) (hs : a.eval s = v) (hown : w.ownsRow base e size v n xs)
    (A : Option Addr) (c m : Nat) (news : List Value) (hm : news.length = m * size) (hx : a.eval x = .slice A m c) (hr : Rd w A news) (h1 : ∀ u ∈ news, u.oneCell' = true) (h63 : n + m ≤ maxLen) (hbytes : (n + m) * bytes ≤ 140737488355328) (hbase : base ≤ w.heap.size)
    (h : ∀ v' w', w'.ownsRow base e size v' (n + m) (xs ++ news) → w.grownBy w' v.ownBlock → (v'.ownBlock = v.ownBlock ∨ v'.ownBlock = some w.heap.size) → K (a.put o.dst v') w') : o.wp P a w K Q := by
  obtain ⟨v', w', hrun, h2, h3, h4⟩ := run_append_wide (P := P) w base t o.type e i z size bytes ht hi hz hsize hby hzs hs0 v n xs hown A c m news hm hr h1 h63 hbytes hbase
  unfold Oper.wp execOp
  simp only [ho, resolve, invoke, builtin, Sem.run_bind, Sem.run_pure, Result.andThen_ok, List.map_toArray, List.map_cons, List.map_nil, hs, hx, hrun]
  exact h v' w' h2 h3 h4
theorem wpList_append_wide {P : Program} (w : World) {ops : Array Oper} {rest : List Oper} {o : Oper} {a : Act} {Q : Exit → Act → World → Prop} (hgd : o.guard = none) (s x : Operand) (t : TypeId)
    (ho : o.op = .call { callee := .builtin .append, args := #[s, x], argTypes := #[t, t] })
    (base : Nat) (e : TypeId) (i : TypeInfo) (z : Value) (size bytes : Nat) (ht : P.underlying t = some (.slice e)) (hi : P.info? e = some i) (hz : i.zero = some z)
    (hsize : i.size = size) (hby : i.bytes = bytes) (hzs : z.cells.size = size) (hs0 : 0 < size) (v : Value) (n : Nat) (xs : List Value) (hs : a.eval s = v) (hown : w.ownsRow base e size v n xs)
    (A : Option Addr) (c m : Nat) (news : List Value) (hm : news.length = m * size) (hx : a.eval x = .slice A m c) (hr : Rd w A news) (h1 : ∀ u ∈ news, u.oneCell' = true) (h63 : n + m ≤ maxLen) (hbytes : (n + m) * bytes ≤ 140737488355328) (hbase : base ≤ w.heap.size)
    (h : ∀ v' w', w'.ownsRow base e size v' (n + m) (xs ++ news) → w.grownBy w' v.ownBlock → (v'.ownBlock = v.ownBlock ∨ v'.ownBlock = some w.heap.size) → wpList P ops Q rest (a.put o.dst v') w') :
    wpList P ops Q (o :: rest) a w :=
  wpList_plain hgd fun _ hK => wp_append_wide w s x t ho base e i z size bytes ht hi hz hsize hby hzs hs0 v n xs hs hown A c m news hm hx hr h1 h63 hbytes hbase fun v' w' h2 h3 h4 => hK _ _ (h v' w' h2 h3 h4)
theorem step_append_wide {P : Program} (w : World) {ops : Array Oper} {o : Oper} {a : Act} {K : Act → World → Prop} {Q : Exit → Act → World → Prop} {E : Prop} (hgd : o.guard = none) (s x : Operand) (t : TypeId)
    (ho : o.op = .call { callee := .builtin .append, args := #[s, x], argTypes := #[t, t] })
    (base : Nat) (e : TypeId) (i : TypeInfo) (z : Value) (size bytes : Nat) (ht : P.underlying t = some (.slice e)) (hi : P.info? e = some i) (hz : i.zero = some z)
    (hsize : i.size = size) (hby : i.bytes = bytes) (hzs : z.cells.size = size) (hs0 : 0 < size) (v : Value) (n : Nat) (xs : List Value) (hs : a.eval s = v) (hown : w.ownsRow base e size v n xs)
    (A : Option Addr) (c m : Nat) (news : List Value) (hm : news.length = m * size) (hx : a.eval x = .slice A m c) (hr : Rd w A news) (h1 : ∀ u ∈ news, u.oneCell' = true) (h63 : n + m ≤ maxLen) (hbytes : (n + m) * bytes ≤ 140737488355328) (hbase : base ≤ w.heap.size)
    (h : ∀ v' w', w'.ownsRow base e size v' (n + m) (xs ++ news) → w.grownBy w' v.ownBlock → (v'.ownBlock = v.ownBlock ∨ v'.ownBlock = some w.heap.size) → K (a.put o.dst v') w') :
    if Region.wanted o (yielded ops a.tmps) = true then Oper.wp P o a w K Q else E := by
  have hw : Region.wanted o (yielded ops a.tmps) = true := by simp [Region.wanted, hgd]
  rw [if_pos hw]
  exact wp_append_wide w s x t ho base e i z size bytes ht hi hz hsize hby hzs hs0 v n xs hs hown A c m news hm hx hr h1 h63 hbytes hbase h

/-- A block's cells with those from o on set one by one. -/
def splice (cs : Array Value) : Nat → List Value → Array Value
  | _, [] => cs
  | o, v :: r => splice (cs.setIfInBounds o v) (o + 1) r
theorem splice_size : ∀ (vs : List Value) (o : Nat) (cs : Array Value), (splice cs o vs).size = cs.size
  | [], _, _ => rfl
  | v :: r, o, cs => by rw [splice, splice_size r]; simp
theorem splice_at : ∀ (vs : List Value) (o : Nat) (cs : Array Value) (i : Nat), o + vs.length ≤ cs.size → (splice cs o vs)[i]? = if o ≤ i ∧ i < o + vs.length then vs[i - o]? else cs[i]?
  | [], o, cs, i, _ => by
    rw [if_neg (by simp), splice]
  | v :: r, o, cs, i, h => by
    simp only [List.length_cons] at h ⊢
    rw [splice, splice_at r (o + 1) _ i (by simp; omega)]
    by_cases h1 : o + 1 ≤ i ∧ i < o + 1 + r.length
    · rw [if_pos h1, if_pos (by omega), show i - o = (i - (o + 1)) + 1 by omega, List.getElem?_cons_succ]
    · rw [if_neg h1, Array.getElem?_setIfInBounds]
      by_cases h2 : o = i
      · subst h2
        rw [if_pos rfl, if_pos (by omega), if_pos (by omega)]
        simp
      · rw [if_neg h2, if_neg (by omega)]
theorem Is.setCells {b : Nat} {t : TypeId} : ∀ (vs : List Value) (o : Nat) (w : World) (cs : Array Value), Is w b t cs → Is (w.setCells b o vs) b t (splice cs o vs)
  | [], _, _, _, h => h
  | v :: r, o, w, cs, h => by
    rw [World.setCells, splice]
    exact Is.setCells r (o + 1) _ _ (h.set o v)
theorem Fr.setCells {S : Nat → Prop} {w : World} {b : Nat} : ∀ (vs : List Value) (o : Nat) {w1 : World}, Fr S w w1 → (S b ∨ w.heap.size ≤ b) → Fr S w (w1.setCells b o vs)
  | [], _, _, f, _ => f
  | v :: r, o, _, f, hb => by
    rw [World.setCells]
    exact Fr.setCells r (o + 1) (f.setCell (p := ⟨b, o, none⟩) hb v) hb

/-- 'clear(s)' on a slice of n > 0 elements of any number of cells. -/
theorem run_clear_wide {P : Program} (w : World) (t e ty : TypeId) (z : Value) (zs : List Value) (ht : P.underlying t = some (.slice e)) (hv : ∀ w, (zeroValue e).run P w = .ok z w) (b o n c : Nat) (hn : 0 < n)
    (hz : (Builtin.zeroCells z.cells n).toList = zs) (h1 : ∀ u ∈ zs, u.oneCell' = true)
    (hc : ∀ j, j < zs.length → (w.cell? ⟨b, o + j, none⟩).isSome = true) (hf : ∀ j, j < zs.length → w.frozen? ⟨b, o + j, none⟩ = false) :
    (Builtin.clear_ #[t] ty #[.slice (some ⟨b, o, none⟩) n c]).run P w = .ok (.tuple #[]) (w.setCells b o zs) := by
  have hst := run_storeCells_cells (P := P) b o zs 0 w (by simpa using hc) (by simpa using hf) h1
  simp only [Nat.add_zero] at hst
  obtain ⟨m, rfl⟩ : ∃ m, n = m + 1 := ⟨n - 1, by omega⟩
  simp [Builtin.clear_, run_underlying ht, hv, hz, hst]

/-- The row when its first element was moved out and its last place emptied. -/
theorem wide_drop {w : World} {base size n c g : Nat} {e : TypeId} {hd rest zs : List Value} (h : w.ownsRow base e size (.slice (some ⟨g, 0, none⟩) (n + 1) c) (n + 1) (hd ++ rest)) (hl : hd.length = size) (hzl : zs.length = size) :
    ((w.setCells g 0 rest).setCells g (n * size) zs).ownsRow base e size (.slice (some ⟨g, 0, none⟩) n c) n rest := by
  have hr : rest.length = n * size := by
    have := h.1
    rw [List.length_append, hl, Nat.add_mul, Nat.one_mul] at this
    omega
  rcases h.2 with ⟨hv, _⟩ | ⟨g', cap, cur, hv, hb, hg, hnc, hm, hs, ht⟩
  · cases hv
  · have e1 : g' = g := by injection hv with hv _ _; injection hv with hv; injection hv with hv; exact hv.symm
    have e2 : cap = c := by injection hv with _ _ hv; exact hv.symm
    subst e1 e2
    have hroom : (n + 1) * size ≤ cap * size := Nat.mul_le_mul_right _ hnc
    rw [Nat.add_mul, Nat.one_mul] at hroom
    have k := Is.setCells zs (n * size) _ _ (Is.setCells rest 0 w cur hg)
    refine ⟨hr, .inr ⟨g', cap, _, rfl, hb, k, by omega, hm, by rw [splice_size, splice_size, hs], ?_⟩⟩
    apply List.ext_getElem?
    intro i
    rw [List.getElem?_take]
    by_cases hi : i < n * size
    · rw [if_pos hi, Array.getElem?_toList, splice_at _ _ _ _ (by rw [splice_size, hs, hzl]; omega), if_neg (by omega), splice_at _ _ _ _ (by rw [hs, hr]; omega), if_pos (by omega)]
      simp
    · rw [if_neg hi, List.getElem?_eq_none (by omega)]
end Go.Proofs.YtkkohdmneognlaaGreatDoor
/- Plain mathematics of track: kinds, ends, ways, joints, plans, the way of a train. Nothing here speaks of the program. -/
namespace Go.Proofs.YtkkohdmneognlaaGreatDoor

structure Sec where
  kind : Int
  oc : Int
  line : Int
structure Jo where
  a : Int
  ae : Int
  b : Int
  be : Int
structure St where
  sec : Int
  inn : Int
  out : Int
instance : Inhabited Sec := ⟨⟨0, 0, 0⟩⟩
instance : Inhabited Jo := ⟨⟨0, 0, 0, 0⟩⟩
instance : Inhabited St := ⟨⟨0, 0, 0⟩⟩

/-- a way through a section: its two ends, its position -/
structure Wy where
  a : Int
  b : Int
  pos : Int
def waysM (k : Int) : List Wy := if k = 0 then [⟨0, 1, 0⟩] else if k = 1 then [⟨0, 1, 1⟩, ⟨0, 2, 2⟩] else if k = 2 then [⟨0, 1, 0⟩, ⟨2, 3, 0⟩] else []
def endsM (k : Int) : Int := if k = 0 then 2 else if k = 1 then 3 else if k = 2 then 4 else 0

/-- the other end of a way -/
def farOk (w : Wy) (i : Int) : Bool := decide (i = w.a) || decide (i = w.b)
def farOut (w : Wy) (i : Int) : Int := if i = w.a then w.b else if i = w.b then w.a else 0
def opn (w : Wy) (p : Int) : Bool := decide (w.pos = 0) || decide (w.pos = p)

def wayOkL : List Wy → Int → Int → Bool
  | [], _, _ => false
  | w :: r, i, p => (farOk w i && opn w p) || wayOkL r i p
def wayOutL : List Wy → Int → Int → Int
  | [], _, _ => 0
  | w :: r, i, p => if (farOk w i && opn w p) = true then farOut w i else wayOutL r i p
def posOkL : List Wy → Int → Int → Bool
  | [], _, _ => false
  | w :: r, i, o => (farOk w i && decide (farOut w i = o)) || posOkL r i o
def posOutL : List Wy → Int → Int → Int
  | [], _, _ => 0
  | w :: r, i, o => if (farOk w i && decide (farOut w i = o)) = true then w.pos else posOutL r i o
def wayOk (k i p : Int) : Bool := wayOkL (waysM k) i p
def wayOut (k i p : Int) : Int := wayOutL (waysM k) i p
def posOk (k i o : Int) : Bool := posOkL (waysM k) i o
def posOut (k i o : Int) : Int := posOutL (waysM k) i o

theorem kind_cases (k : Int) : k = 0 ∨ k = 1 ∨ k = 2 ∨ (k ≠ 0 ∧ k ≠ 1 ∧ k ≠ 2) := by omega
theorem ways_none {k : Int} (h : k ≠ 0 ∧ k ≠ 1 ∧ k ≠ 2) : waysM k = [] := by unfold waysM; rw [if_neg h.1, if_neg h.2.1, if_neg h.2.2]

/-- Ways go both ways round. -/
theorem way_back (k i p : Int) (h : wayOk k i p = true) : wayOk k (wayOut k i p) p = true ∧ wayOut k (wayOut k i p) p = i ∧ wayOut k i p ≠ i ∧ 0 ≤ wayOut k i p ∧ wayOut k i p < endsM k ∧ 0 ≤ i ∧ i < endsM k := by
  rcases kind_cases k with rfl | rfl | rfl | hk
  · simp [wayOk, waysM, wayOkL, farOk, opn] at h
    rcases h with rfl | rfl <;> simp [wayOk, wayOut, waysM, wayOkL, wayOutL, farOk, farOut, opn, endsM]
  · simp [wayOk, waysM, wayOkL, farOk, opn] at h
    rcases h with ⟨rfl | rfl, rfl⟩ | ⟨rfl | rfl, rfl⟩ <;> simp [wayOk, wayOut, waysM, wayOkL, wayOutL, farOk, farOut, opn, endsM]
  · simp [wayOk, waysM, wayOkL, farOk, opn] at h
    rcases h with (rfl | rfl) | rfl | rfl <;> simp [wayOk, wayOut, waysM, wayOkL, wayOutL, farOk, farOut, opn, endsM]
  · rw [wayOk, ways_none hk] at h
    cases h
theorem way_pos (k i p : Int) (h : wayOk k i p = true) : posOk k i (wayOut k i p) = true ∧ (posOut k i (wayOut k i p) = 0 ∨ posOut k i (wayOut k i p) = p) := by
  rcases kind_cases k with rfl | rfl | rfl | hk
  · simp [wayOk, waysM, wayOkL, farOk, opn] at h
    rcases h with rfl | rfl <;> simp [posOk, posOut, wayOut, waysM, posOkL, posOutL, wayOutL, farOk, farOut, opn]
  · simp [wayOk, waysM, wayOkL, farOk, opn] at h
    rcases h with ⟨rfl | rfl, rfl⟩ | ⟨rfl | rfl, rfl⟩ <;> simp [posOk, posOut, wayOut, waysM, posOkL, posOutL, wayOutL, farOk, farOut, opn]
  · simp [wayOk, waysM, wayOkL, farOk, opn] at h
    rcases h with (rfl | rfl) | rfl | rfl <;> simp [posOk, posOut, wayOut, waysM, posOkL, posOutL, wayOutL, farOk, farOut, opn]
  · rw [wayOk, ways_none hk] at h
    cases h
theorem pos_ne (k i o : Int) (h : posOk k i o = true) : i ≠ o := by
  rcases kind_cases k with rfl | rfl | rfl | hk
  · simp [posOk, waysM, posOkL, farOk, farOut] at h
    rcases h with ⟨rfl | rfl, rfl⟩ <;> simp
  · simp [posOk, waysM, posOkL, farOk, farOut] at h
    rcases h with ⟨rfl | rfl, rfl⟩ | ⟨rfl | rfl, rfl⟩ <;> simp
  · simp [posOk, waysM, posOkL, farOk, farOut] at h
    rcases h with ⟨rfl | rfl, rfl⟩ | ⟨rfl | rfl, rfl⟩ <;> simp
  · rw [posOk, ways_none hk] at h
    cases h
theorem way_none_out (k i p : Int) (h : wayOk k i p = false) : wayOut k i p = 0 := by
  unfold wayOk at h
  unfold wayOut
  generalize waysM k = l at h
  induction l with
  | nil => rfl
  | cons w r ih =>
    rw [wayOkL, Bool.or_eq_false_iff] at h
    rw [wayOutL, if_neg (by rw [h.1]; decide)]
    exact ih h.2
/-- just a kind's ends have a way, in one of the three positions -/
theorem way_some (k i : Int) : (wayOk k i 0 || wayOk k i 1 || wayOk k i 2) = (decide (0 ≤ i) && decide (i < endsM k)) := by
  rw [Bool.eq_iff_iff]
  rcases kind_cases k with rfl | rfl | rfl | hk
  · simp [wayOk, waysM, wayOkL, farOk, opn, endsM]; omega
  · simp [wayOk, waysM, wayOkL, farOk, opn, endsM]; omega
  · simp [wayOk, waysM, wayOkL, farOk, opn, endsM]; omega
  · simp [wayOk, ways_none hk, wayOkL, endsM, hk]
theorem way_blind (k i p q : Int) (h : k ≠ 1) : wayOk k i p = wayOk k i q ∧ wayOut k i p = wayOut k i q := by
  rcases kind_cases k with rfl | rfl | rfl | hk
  · simp [wayOk, wayOut, waysM, wayOkL, wayOutL, farOk, farOut, opn]
  · exact absurd rfl h
  · simp [wayOk, wayOut, waysM, wayOkL, wayOutL, farOk, farOut, opn]
  · simp [wayOk, wayOut, ways_none hk, wayOkL, wayOutL]
theorem ends_none {k : Int} : endsM k = 0 ↔ (k ≠ 0 ∧ k ≠ 1 ∧ k ≠ 2) := by
  unfold endsM
  split
  · omega
  · split
    · omega
    · split <;> omega
theorem ends_bd (k : Int) : 0 ≤ endsM k ∧ endsM k ≤ 4 := by
  unfold endsM
  split
  · omega
  · split
    · omega
    · split <;> omega

/-- what meets an end: of the first joint that has it -/
def jA (j : Jo) (s e : Int) : Bool := decide (j.a = s) && decide (j.ae = e)
def jB (j : Jo) (s e : Int) : Bool := decide (j.b = s) && decide (j.be = e)
def nextOk : List Jo → Int → Int → Bool
  | [], _, _ => false
  | j :: r, s, e => (jA j s e || jB j s e) || nextOk r s e
def nextS : List Jo → Int → Int → Int
  | [], _, _ => 0
  | j :: r, s, e => if jA j s e = true then j.b else if jB j s e = true then j.a else nextS r s e
def nextE : List Jo → Int → Int → Int
  | [], _, _ => 0
  | j :: r, s, e => if jA j s e = true then j.be else if jB j s e = true then j.ae else nextE r s e
end Go.Proofs.YtkkohdmneognlaaGreatDoor
/- The contracts of what calls nothing else: how many ends a kind has, its ways, the far end of a way, whether it is open. -/
namespace Go.Proofs.YtkkohdmneognlaaGreatDoor
open Go.RowKit

theorem ends_any (k : Int) (w : World) : Calls Tryz.prog 104 #[.int .i64 k] w fun e w' => e = .returned (.int .i64 (endsM k)) ∧ w = w' := by
  unfold endsM
  go_enter Tryz.func104, Tryz.ntmps104
  go_wp2
  all_goals go_ret
  all_goals simp_all

/-- the cells of a way -/
def Wy.cells (v : Wy) : List Value := [.int .i64 v.a, .int .i64 v.b, .int .i64 v.pos]
def cellsW (l : List Wy) : List Value := l.flatMap Wy.cells

theorem from_any (v : Wy) (i : Int) (w : World) : Calls Tryz.prog 77 #[.agg #[.int .i64 v.a, .int .i64 v.b, .int .i64 v.pos], .int .i64 i] w fun e w' => e = .returned (.tuple #[.int .i64 (farOut v i), .bool (farOk v i)]) ∧ Fr (fun _ => False) w w' := by
  obtain ⟨a, b, p⟩ := v
  by_cases h1 : i = a
  · rw [show farOut ⟨a, b, p⟩ i = b from if_pos h1, show farOk ⟨a, b, p⟩ i = true by simp [farOk, h1]]
    have e1 : (i == a) = true := by simp [h1]
    clear h1
    go_enter Tryz.func77, Tryz.ntmps77
    go_wp2
    go_ret2
    exact ⟨rfl, (Fr.refl _ _).alloc _⟩
  · have e1 : (i == a) = false := by simp [h1]
    by_cases h2 : i = b
    · rw [show farOut ⟨a, b, p⟩ i = a by simp [farOut, h2], show farOk ⟨a, b, p⟩ i = true by simp [farOk, h2]]
      have e2 : (i == b) = true := by simp [h2]
      clear h1 h2
      go_enter Tryz.func77, Tryz.ntmps77
      go_wp2
      go_ret2
      exact ⟨rfl, (Fr.refl _ _).alloc _⟩
    · rw [show farOut ⟨a, b, p⟩ i = 0 by simp [farOut, h1, h2], show farOk ⟨a, b, p⟩ i = false by simp [farOk, h1, h2]]
      have e2 : (i == b) = false := by simp [h2]
      clear h1 h2
      go_enter Tryz.func77, Tryz.ntmps77
      go_wp2
      go_ret2
      exact ⟨rfl, (Fr.refl _ _).alloc _⟩

theorem open_any (v : Wy) (p : Int) (w : World) : Calls Tryz.prog 118 #[.agg #[.int .i64 v.a, .int .i64 v.b, .int .i64 v.pos], .int .i64 p] w fun e w' => e = .returned (.bool (opn v p)) ∧ Fr (fun _ => False) w w' := by
  obtain ⟨a, b, q⟩ := v
  by_cases h1 : q = 0
  · rw [show opn ⟨a, b, q⟩ p = true by simp [opn, h1]]
    have e1 : (q == 0) = true := by simp [h1]
    clear h1
    go_enter Tryz.func118, Tryz.ntmps118
    go_wp2
    go_ret
    exact ⟨rfl, (Fr.refl _ _).alloc _⟩
  · have e1 : (q == 0) = false := by simp [h1]
    by_cases h2 : q = p
    · rw [show opn ⟨a, b, q⟩ p = true by simp [opn, h2]]
      have e2 : (q == p) = true := by simp [h2]
      clear h1 h2
      go_enter Tryz.func118, Tryz.ntmps118
      go_wp2
      go_ret
      exact ⟨rfl, (Fr.refl _ _).alloc _⟩
    · rw [show opn ⟨a, b, q⟩ p = false by simp [opn, h1, h2]]
      have e2 : (q == p) = false := by simp [h2]
      clear h1 h2
      go_enter Tryz.func118, Tryz.ntmps118
      go_wp2
      go_ret
      exact ⟨rfl, (Fr.refl _ _).alloc _⟩

theorem lit_rd (w : World) (cs : List Value) (t : TypeId) : Rd (w.alloc (.cells cs.toArray t)) (some ⟨w.heap.size, 0, none⟩) cs := fun _ =>
  ⟨w.heap.size, 0, rfl, by simp, fun j u hu => by
    rw [World.cell?_alloc_at _ _ _ _ rfl, Nat.zero_add]
    simpa using hu⟩

/-- the ways of a kind, as they lie -/
def SomeWays (P : Nat → Nat → Prop) (w : World) (l : List Wy) (e : Ending) (w' : World) : Prop := ∃ A c, e = .returned (.slice A l.length c) ∧ Rd w' A (cellsW l) ∧ P l.length c ∧ Fr (fun _ => False) w w'
theorem ways_any (k : Int) (w : World) : Calls Tryz.prog 76 #[.int .i64 k] w (SomeWays (· ≤ ·) w (waysM k)) := by
  rcases kind_cases k with rfl | rfl | rfl | hk
  · go_enter Tryz.func76, Tryz.ntmps76
    go_wp2
    go_ret
    exact ⟨_, _, rfl, lit_rd _ _ _, Nat.le_refl _, (Fr.refl _ _).alloc _⟩
  · go_enter Tryz.func76, Tryz.ntmps76
    go_wp2
    go_ret
    exact ⟨_, _, rfl, lit_rd _ _ _, Nat.le_refl _, (Fr.refl _ _).alloc _⟩
  · go_enter Tryz.func76, Tryz.ntmps76
    go_wp2
    go_ret
    exact ⟨_, _, rfl, lit_rd _ _ _, Nat.le_refl _, (Fr.refl _ _).alloc _⟩
  · rw [ways_none hk]
    have e0 : (k == 0) = false := by simp [hk]
    have e1 : (k == 1) = false := by simp [hk]
    have e2 : (k == 2) = false := by simp [hk]
    clear hk
    go_enter Tryz.func76, Tryz.ntmps76
    go_wp2
    go_ret
    exact ⟨_, _, rfl, fun h => by simp [cellsW] at h, Nat.le_refl _, Fr.refl _ _⟩
end Go.Proofs.YtkkohdmneognlaaGreatDoor
/- The contracts of Way and Pos: by which end a train goes out, in which position. -/
namespace Go.Proofs.YtkkohdmneognlaaGreatDoor
open Go.RowKit

theorem cellsW_at {l : List Wy} {j : Nat} (h : j < l.length) : (cellsW l)[j * 3]? = some (.int .i64 l[j].a) ∧ (cellsW l)[j * 3 + 1]? = some (.int .i64 l[j].b) ∧ (cellsW l)[j * 3 + 2]? = some (.int .i64 l[j].pos) := by
  induction l generalizing j with
  | nil => simp at h
  | cons v r ih =>
    have e : cellsW (v :: r) = [.int .i64 v.a, .int .i64 v.b, .int .i64 v.pos] ++ cellsW r := rfl
    rcases j with _ | j
    · rw [e]; simp
    · have := ih (j := j) (by simpa using h)
      rw [e, show (j + 1) * 3 = 3 + j * 3 by omega, show 3 + j * 3 + 1 = 3 + (j * 3 + 1) by omega, show 3 + j * 3 + 2 = 3 + (j * 3 + 2) by omega]
      rw [List.getElem?_append_right (by simp), List.getElem?_append_right (by simp), List.getElem?_append_right (by simp)]
      simpa using this
theorem rd_ways {w : World} {A : Option Addr} {l : List Wy} (h : Rd w A (cellsW l)) {j : Nat} (hj : j < l.length) : ∃ g o, A = some ⟨g, o, none⟩ ∧ w.cell? ⟨g, o + j * 3, none⟩ = some (.int .i64 l[j].a) ∧ w.cell? ⟨g, o + j * 3 + 1, none⟩ = some (.int .i64 l[j].b) ∧ w.cell? ⟨g, o + j * 3 + 2, none⟩ = some (.int .i64 l[j].pos) := by
  obtain ⟨h0, h1, h2⟩ := cellsW_at hj
  obtain ⟨g, o, rfl, _, hc⟩ := h (by have := (List.getElem?_eq_some_iff.1 h0).1; omega)
  exact ⟨g, o, rfl, hc _ _ h0, hc _ _ h1, hc _ _ h2⟩
theorem ways_short (k : Int) : (waysM k).length ≤ 2 := by
  unfold waysM
  split
  · simp
  · split
    · simp
    · split <;> simp

theorem fr_nil {w w1 w2 : World} (f1 : Fr (fun _ => False) w w1) (f2 : Fr (fun _ => False) w1 w2) : Fr (fun _ => False) w w2 := f1.trans f2 fun _ _ h => h

set_option maxHeartbeats 1000000 in
theorem way_any (k i p : Int) (w : World) : Calls Tryz.prog 80 #[.int .i64 k, .int .i64 i, .int .i64 p] w fun e w' => e = .returned (.tuple #[.int .i64 (wayOut k i p), .bool (wayOk k i p)]) ∧ Fr (fun _ => False) w w' := by
  unfold wayOut wayOk
  have KW := ways_any k
  have hs := ways_short k
  generalize waysM k = l at *
  generalize hO : wayOutL l i p = O
  generalize hK : wayOkL l i p = K
  have HO := Lib.hid hO
  have HK := Lib.hid hK
  clear hO hK
  go_enter Tryz.func80, Tryz.ntmps80
  go_wp2_with fail
  refine (KW _).mono ?_
  clear KW
  rintro e w1 ⟨A, c, rfl, hr, hc, f1⟩
  go_wp2_with fail
  go_loopw [15] (fun t wr => ∃ j : Nat, j ≤ l.length ∧ t = .int .i64 (j : Nat) ∧ wayOutL (l.drop j) i p = O ∧ wayOkL (l.drop j) i p = K ∧ Fr (fun _ => False) w1 wr) (fun t _ => l.length - (intOf t).toNat)
  case atStart => exact ⟨0, Nat.zero_le _, rfl, HO.out, HK.out, Fr.refl _ _⟩
  case round =>
    obtain ⟨j, hj, rfl, hO, hK, fr⟩ := hrel
    by_cases hlt : j < l.length
    · obtain ⟨g, o, rfl, c0, c1, c2⟩ := rd_ways (hr.fr fr fun _ _ => id) hlt
      rw [List.drop_eq_getElem_cons hlt, wayOutL] at hO
      rw [List.drop_eq_getElem_cons hlt, wayOkL] at hK
      generalize l[j] = v at *
      have HF := fun w => from_any v i w
      have HP := fun w => open_any v p w
      generalize hfo : farOut v i = fo at *
      have HFO := Lib.hid hfo
      clear hfo hr
      cases hf : farOk v i
      · rw [hf] at hO hK HF
        have hO' : wayOutL (l.drop (j + 1)) i p = O := by simpa using hO
        have hK' : wayOkL (l.drop (j + 1)) i p = K := by simpa using hK
        have HO1 := Lib.hid hO'
        have HK1 := Lib.hid hK'
        clear hO hK hO' hK' hf HP
        go_wp2_with fail
        refine (HF _).mono ?_
        clear HF
        rintro e w3 ⟨rfl, f3⟩
        go_wp2_with fail
        go_roundw
        case rel => exact ⟨j + 1, by omega, by go_num, HO1.out, HK1.out, fr_nil ((fr.alloc _)) f3⟩
        case measure => simp [intOf]; omega
      · rw [hf] at hO hK HF
        cases hp : opn v p
        · rw [hp] at hO hK HP
          have hO' : wayOutL (l.drop (j + 1)) i p = O := by simpa using hO
          have hK' : wayOkL (l.drop (j + 1)) i p = K := by simpa using hK
          have HO1 := Lib.hid hO'
          have HK1 := Lib.hid hK'
          clear hO hK hO' hK' hf hp
          go_wp2_with fail
          refine (HF _).mono ?_
          clear HF
          rintro e w3 ⟨rfl, f3⟩
          have g1 := fr_nil (fr.alloc (.cells #[.int .i64 v.a, .int .i64 v.b, .int .i64 v.pos] 120)) f3
          have k0 := f3.cell (p := ⟨wr.heap.size, 0, none⟩) (by simp) id
          have k1 := f3.cell (p := ⟨wr.heap.size, 1, none⟩) (by simp) id
          have k2 := f3.cell (p := ⟨wr.heap.size, 2, none⟩) (by simp) id
          simp [World.cell?_alloc_at] at k0 k1 k2
          clear f3
          go_wp2_with fail
          refine (HP _).mono ?_
          clear HP
          rintro e w4 ⟨rfl, f4⟩
          have g2 := fr_nil g1 f4
          clear g1 f4
          go_wp2_with fail
          go_roundw
          case rel => exact ⟨j + 1, by omega, by go_num, HO1.out, HK1.out, g2⟩
          case measure => simp [intOf]; omega
        · rw [hp] at hO hK HP
          have hO' : fo = O := by simpa using hO
          have hK' : true = K := by simpa using hK
          subst hO' hK'
          clear hO hK hf hp HO HK
          go_wp2_with fail
          refine (HF _).mono ?_
          clear HF
          rintro e w3 ⟨rfl, f3⟩
          have g1 := fr_nil (fr.alloc (.cells #[.int .i64 v.a, .int .i64 v.b, .int .i64 v.pos] 120)) f3
          have k0 := f3.cell (p := ⟨wr.heap.size, 0, none⟩) (by simp) id
          have k1 := f3.cell (p := ⟨wr.heap.size, 1, none⟩) (by simp) id
          have k2 := f3.cell (p := ⟨wr.heap.size, 2, none⟩) (by simp) id
          simp [World.cell?_alloc_at] at k0 k1 k2
          clear f3
          go_wp2_with fail
          refine (HP _).mono ?_
          clear HP
          rintro e w4 ⟨rfl, f4⟩
          have g2 := fr_nil f1 (fr_nil g1 f4)
          clear g1 f4
          go_wp2_with fail
          go_ret2
          exact ⟨rfl, g2⟩
    · have hjl : j = l.length := by omega
      subst hjl
      rw [List.drop_length] at hO hK
      have hO' : 0 = O := hO
      have hK' : false = K := hK
      subst hO' hK'
      clear hO hK HO HK
      go_wp2_with fail
      go_ret2
      exact ⟨rfl, fr_nil f1 fr⟩

set_option maxHeartbeats 1000000 in
theorem pos_any (k i p : Int) (w : World) : Calls Tryz.prog 32 #[.int .i64 k, .int .i64 i, .int .i64 p] w fun e w' => e = .returned (.tuple #[.int .i64 (posOut k i p), .bool (posOk k i p)]) ∧ Fr (fun _ => False) w w' := by
  unfold posOut posOk
  have KW := ways_any k
  have hs := ways_short k
  generalize waysM k = l at *
  generalize hO : posOutL l i p = O
  generalize hK : posOkL l i p = K
  have HO := Lib.hid hO
  have HK := Lib.hid hK
  clear hO hK
  go_enter Tryz.func32, Tryz.ntmps32
  go_wp2_with fail
  refine (KW _).mono ?_
  clear KW
  rintro e w1 ⟨A, c, rfl, hr, hc, f1⟩
  go_wp2_with fail
  go_loopw [15] (fun t wr => ∃ j : Nat, j ≤ l.length ∧ t = .int .i64 (j : Nat) ∧ posOutL (l.drop j) i p = O ∧ posOkL (l.drop j) i p = K ∧ Fr (fun _ => False) w1 wr) (fun t _ => l.length - (intOf t).toNat)
  case atStart => exact ⟨0, Nat.zero_le _, rfl, HO.out, HK.out, Fr.refl _ _⟩
  case round =>
    obtain ⟨j, hj, rfl, hO, hK, fr⟩ := hrel
    by_cases hlt : j < l.length
    · obtain ⟨g, o, rfl, c0, c1, c2⟩ := rd_ways (hr.fr fr fun _ _ => id) hlt
      rw [List.drop_eq_getElem_cons hlt, posOutL] at hO
      rw [List.drop_eq_getElem_cons hlt, posOkL] at hK
      generalize l[j] = v at *
      have HF := fun w => from_any v i w
      generalize hfo : farOut v i = fo at *
      have HFO := Lib.hid hfo
      clear hfo hr
      cases hf : farOk v i
      · rw [hf] at hO hK HF
        have hO' : posOutL (l.drop (j + 1)) i p = O := by simpa using hO
        have hK' : posOkL (l.drop (j + 1)) i p = K := by simpa using hK
        have HO1 := Lib.hid hO'
        have HK1 := Lib.hid hK'
        clear hO hK hO' hK' hf
        go_wp2_with fail
        refine (HF _).mono ?_
        clear HF
        rintro e w3 ⟨rfl, f3⟩
        go_wp2_with fail
        go_roundw
        case rel => exact ⟨j + 1, by omega, by go_num, HO1.out, HK1.out, fr_nil ((fr.alloc _)) f3⟩
        case measure => simp [intOf]; omega
      · rw [hf] at hO hK HF
        by_cases hp : fo = p
        · subst hp
          have hO' : v.pos = O := by simpa using hO
          have hK' : true = K := by simpa using hK
          subst hO' hK'
          have e1 : (fo == fo) = true := by simp
          clear hO hK hf HO HK
          go_wp2_with fail
          refine (HF _).mono ?_
          clear HF
          rintro e w3 ⟨rfl, f3⟩
          have g1 := fr_nil (fr.alloc (.cells #[.int .i64 v.a, .int .i64 v.b, .int .i64 v.pos] 120)) f3
          have k2 := f3.cell (p := ⟨wr.heap.size, 2, none⟩) (by simp) id
          simp [World.cell?_alloc_at] at k2
          clear f3
          have g2 := fr_nil f1 g1
          clear g1
          go_wp2_with fail
          go_ret2
          exact ⟨rfl, g2⟩
        · have hO' : posOutL (l.drop (j + 1)) i p = O := by simpa [hp] using hO
          have hK' : posOkL (l.drop (j + 1)) i p = K := by simpa [hp] using hK
          have HO1 := Lib.hid hO'
          have HK1 := Lib.hid hK'
          have e1 : (fo == p) = false := by simp [hp]
          clear hO hK hO' hK' hf hp
          go_wp2_with fail
          refine (HF _).mono ?_
          clear HF
          rintro e w3 ⟨rfl, f3⟩
          go_wp2_with fail
          go_roundw
          case rel => exact ⟨j + 1, by omega, by go_num, HO1.out, HK1.out, fr_nil (fr.alloc _) f3⟩
          case measure => simp [intOf]; omega
    · have hjl : j = l.length := by omega
      subst hjl
      rw [List.drop_length] at hO hK
      have hO' : 0 = O := hO
      have hK' : false = K := hK
      subst hO' hK'
      clear hO hK HO HK
      go_wp2_with fail
      go_ret2
      exact ⟨rfl, fr_nil f1 fr⟩
end Go.Proofs.YtkkohdmneognlaaGreatDoor
/- How sections and joints lie in memory; the contracts of Next: what meets an end (the program's, and the document's own). -/
namespace Go.Proofs.YtkkohdmneognlaaGreatDoor
open Go.RowKit

def cellsS (l : List Sec) : List Value := l.flatMap fun s => [.int .i64 s.kind, .int .i64 s.oc, .int .i64 s.line]
def cellsJ (l : List Jo) : List Value := l.flatMap fun j => [.int .i64 j.a, .int .i64 j.ae, .int .i64 j.b, .int .i64 j.be]
theorem cellsS_length (l : List Sec) : (cellsS l).length = l.length * 3 := by
  induction l with
  | nil => rfl
  | cons v r ih =>
    have e : cellsS (v :: r) = [.int .i64 v.kind, .int .i64 v.oc, .int .i64 v.line] ++ cellsS r := rfl
    rw [e, List.length_append, ih, List.length_cons]
    simp
    omega
theorem cellsJ_length (l : List Jo) : (cellsJ l).length = l.length * 4 := by
  induction l with
  | nil => rfl
  | cons v r ih =>
    have e : cellsJ (v :: r) = [.int .i64 v.a, .int .i64 v.ae, .int .i64 v.b, .int .i64 v.be] ++ cellsJ r := rfl
    rw [e, List.length_append, ih, List.length_cons]
    simp
    omega
theorem cellsS_at {l : List Sec} {j : Nat} (h : j < l.length) : (cellsS l)[j * 3]? = some (.int .i64 l[j].kind) ∧ (cellsS l)[j * 3 + 1]? = some (.int .i64 l[j].oc) ∧ (cellsS l)[j * 3 + 2]? = some (.int .i64 l[j].line) := by
  induction l generalizing j with
  | nil => simp at h
  | cons v r ih =>
    have e : cellsS (v :: r) = [.int .i64 v.kind, .int .i64 v.oc, .int .i64 v.line] ++ cellsS r := rfl
    rcases j with _ | j
    · rw [e]; simp
    · have := ih (j := j) (by simpa using h)
      rw [e, show (j + 1) * 3 = 3 + j * 3 by omega, show 3 + j * 3 + 1 = 3 + (j * 3 + 1) by omega, show 3 + j * 3 + 2 = 3 + (j * 3 + 2) by omega]
      rw [List.getElem?_append_right (by simp), List.getElem?_append_right (by simp), List.getElem?_append_right (by simp)]
      simpa using this
theorem cellsJ_at {l : List Jo} {j : Nat} (h : j < l.length) : (cellsJ l)[j * 4]? = some (.int .i64 l[j].a) ∧ (cellsJ l)[j * 4 + 1]? = some (.int .i64 l[j].ae) ∧ (cellsJ l)[j * 4 + 2]? = some (.int .i64 l[j].b) ∧ (cellsJ l)[j * 4 + 3]? = some (.int .i64 l[j].be) := by
  induction l generalizing j with
  | nil => simp at h
  | cons v r ih =>
    have e : cellsJ (v :: r) = [.int .i64 v.a, .int .i64 v.ae, .int .i64 v.b, .int .i64 v.be] ++ cellsJ r := rfl
    rcases j with _ | j
    · rw [e]; simp
    · have := ih (j := j) (by simpa using h)
      rw [e, show (j + 1) * 4 = 4 + j * 4 by omega, show 4 + j * 4 + 1 = 4 + (j * 4 + 1) by omega, show 4 + j * 4 + 2 = 4 + (j * 4 + 2) by omega, show 4 + j * 4 + 3 = 4 + (j * 4 + 3) by omega]
      rw [List.getElem?_append_right (by simp), List.getElem?_append_right (by simp), List.getElem?_append_right (by simp), List.getElem?_append_right (by simp)]
      simpa using this
theorem rd_sec {w : World} {A : Option Addr} {l : List Sec} (h : Rd w A (cellsS l)) {j : Nat} (hj : j < l.length) : ∃ g o, A = some ⟨g, o, none⟩ ∧ w.cell? ⟨g, o + j * 3, none⟩ = some (.int .i64 l[j].kind) ∧ w.cell? ⟨g, o + j * 3 + 1, none⟩ = some (.int .i64 l[j].oc) ∧ w.cell? ⟨g, o + j * 3 + 2, none⟩ = some (.int .i64 l[j].line) := by
  obtain ⟨h0, h1, h2⟩ := cellsS_at hj
  obtain ⟨g, o, rfl, _, hc⟩ := h (by have := (List.getElem?_eq_some_iff.1 h0).1; omega)
  exact ⟨g, o, rfl, hc _ _ h0, hc _ _ h1, hc _ _ h2⟩
theorem rd_jo {w : World} {A : Option Addr} {l : List Jo} (h : Rd w A (cellsJ l)) {j : Nat} (hj : j < l.length) : ∃ g o, A = some ⟨g, o, none⟩ ∧ w.cell? ⟨g, o + j * 4, none⟩ = some (.int .i64 l[j].a) ∧ w.cell? ⟨g, o + j * 4 + 1, none⟩ = some (.int .i64 l[j].ae) ∧ w.cell? ⟨g, o + j * 4 + 2, none⟩ = some (.int .i64 l[j].b) ∧ w.cell? ⟨g, o + j * 4 + 3, none⟩ = some (.int .i64 l[j].be) := by
  obtain ⟨h0, h1, h2, h3⟩ := cellsJ_at hj
  obtain ⟨g, o, rfl, _, hc⟩ := h (by have := (List.getElem?_eq_some_iff.1 h0).1; omega)
  exact ⟨g, o, rfl, hc _ _ h0, hc _ _ h1, hc _ _ h2, hc _ _ h3⟩

theorem two_tests (a s b e : Int) : ((a == s) = true ∧ (b == e) = true ∧ (decide (a = s) && decide (b = e)) = true) ∨ ((a == s) = false ∧ (decide (a = s) && decide (b = e)) = false) ∨ ((a == s) = true ∧ (b == e) = false ∧ (decide (a = s) && decide (b = e)) = false) := by
  by_cases h1 : a = s <;> by_cases h2 : b = e <;> simp [h1, h2]

set_option maxHeartbeats 2000000 in
theorem next_any {A : Option Addr} {c : Nat} {l : List Jo} (s e : Int) (w : World) (hr : Rd w A (cellsJ l)) (hl : l.length ≤ 9223372036854775807) :
    Calls Tryz.prog 31 #[.slice A l.length c, .int .i64 s, .int .i64 e] w fun x w' => x = .returned (.tuple #[.int .i64 (nextS l s e), .int .i64 (nextE l s e), .bool (nextOk l s e)]) ∧ Fr (fun _ => False) w w' := by
  generalize hO : nextS l s e = S
  generalize hE : nextE l s e = E
  generalize hK : nextOk l s e = K
  have HO := Lib.hid hO
  have HE := Lib.hid hE
  have HK := Lib.hid hK
  clear hO hE hK
  go_enter Tryz.func31, Tryz.ntmps31
  go_wp2_with fail
  go_loopw [13] (fun t wr => ∃ j : Nat, j ≤ l.length ∧ t = .int .i64 (j : Nat) ∧ nextS (l.drop j) s e = S ∧ nextE (l.drop j) s e = E ∧ nextOk (l.drop j) s e = K ∧ Fr (fun _ => False) w wr) (fun t _ => l.length - (intOf t).toNat)
  case atStart => exact ⟨0, Nat.zero_le _, rfl, HO.out, HE.out, HK.out, Fr.refl _ _⟩
  case round =>
    clear HO HE HK
    obtain ⟨j, hj, rfl, hO, hE, hK, fr⟩ := hrel
    by_cases hlt : j < l.length
    · obtain ⟨g, o, rfl, c0, c1, c2, c3⟩ := rd_jo (hr.fr fr fun _ _ => id) hlt
      rw [List.drop_eq_getElem_cons hlt, nextS] at hO
      rw [List.drop_eq_getElem_cons hlt, nextE] at hE
      rw [List.drop_eq_getElem_cons hlt, nextOk] at hK
      unfold jA jB at hO hE hK
      generalize l[j] = v at *
      have hA := two_tests v.a s v.ae e
      have hB := two_tests v.b s v.be e
      generalize (decide (v.a = s) && decide (v.ae = e)) = x at *
      generalize (decide (v.b = s) && decide (v.be = e)) = y at *
      obtain ⟨va, vae, vb, vbe⟩ := v
      simp only at *
      rcases hA with ⟨a1, a2, rfl⟩ | ⟨a1, rfl⟩ | ⟨a1, a2, rfl⟩
      · simp only [if_true, Bool.true_or] at hO hE hK
        subst hO hE hK
        clear hB hr
        go_wp2_with fail
        go_quiet (fail)
        go_wp2_with fail
        go_ret3
        exact ⟨rfl, (fr.alloc _).drewN nq⟩
      all_goals
        simp only [Bool.false_or, Bool.false_eq_true, if_false] at hO hE hK
        rcases hB with ⟨b1, b2, rfl⟩ | ⟨b1, rfl⟩ | ⟨b1, b2, rfl⟩
        · simp only [if_true, Bool.true_or] at hO hE hK
          subst hO hE hK
          clear hr
          go_wp2_with fail
          go_quiet (fail)
          go_wp2_with fail
          go_ret3
          exact ⟨rfl, (fr.alloc _).drewN nq⟩
        all_goals
          simp only [Bool.false_or, Bool.false_eq_true, if_false] at hO hE hK
          have HO := Lib.hid hO
          have HE := Lib.hid hE
          have HK := Lib.hid hK
          clear hO hE hK hr
          go_wp2_with fail
          go_roundw
          case rel => exact ⟨j + 1, by omega, by go_num, HO.out, HE.out, HK.out, fr.alloc _⟩
          case measure => simp [intOf]; omega
    · have hjl : j = l.length := by omega
      subst hjl
      rw [List.drop_length] at hO hE hK
      have hO' : 0 = S := hO
      have hE' : 0 = E := hE
      have hK' : false = K := hK
      subst hO' hE' hK'
      clear hO hE hK
      go_wp2_with fail
      go_ret3
      exact ⟨rfl, fr⟩

set_option maxHeartbeats 2000000 in
theorem rnext_any {A : Option Addr} {c : Nat} {l : List Jo} (s e : Int) (w : World) (hr : Rd w A (cellsJ l)) (hl : l.length ≤ 9223372036854775807) :
    Calls Tryz.prog 62 #[.slice A l.length c, .int .i64 s, .int .i64 e] w fun x w' => x = .returned (.tuple #[.int .i64 (nextS l s e), .int .i64 (nextE l s e), .bool (nextOk l s e)]) ∧ Fr (fun _ => False) w w' := by
  generalize hO : nextS l s e = S
  generalize hE : nextE l s e = E
  generalize hK : nextOk l s e = K
  have HO := Lib.hid hO
  have HE := Lib.hid hE
  have HK := Lib.hid hK
  clear hO hE hK
  go_enter Tryz.func62, Tryz.ntmps62
  go_wp2_with fail
  go_loopw [13] (fun t wr => ∃ j : Nat, j ≤ l.length ∧ t = .int .i64 (j : Nat) ∧ nextS (l.drop j) s e = S ∧ nextE (l.drop j) s e = E ∧ nextOk (l.drop j) s e = K ∧ Fr (fun _ => False) w wr) (fun t _ => l.length - (intOf t).toNat)
  case atStart => exact ⟨0, Nat.zero_le _, rfl, HO.out, HE.out, HK.out, Fr.refl _ _⟩
  case round =>
    clear HO HE HK
    obtain ⟨j, hj, rfl, hO, hE, hK, fr⟩ := hrel
    by_cases hlt : j < l.length
    · obtain ⟨g, o, rfl, c0, c1, c2, c3⟩ := rd_jo (hr.fr fr fun _ _ => id) hlt
      rw [List.drop_eq_getElem_cons hlt, nextS] at hO
      rw [List.drop_eq_getElem_cons hlt, nextE] at hE
      rw [List.drop_eq_getElem_cons hlt, nextOk] at hK
      unfold jA jB at hO hE hK
      generalize l[j] = v at *
      have hA := two_tests v.a s v.ae e
      have hB := two_tests v.b s v.be e
      generalize (decide (v.a = s) && decide (v.ae = e)) = x at *
      generalize (decide (v.b = s) && decide (v.be = e)) = y at *
      obtain ⟨va, vae, vb, vbe⟩ := v
      simp only at *
      rcases hA with ⟨a1, a2, rfl⟩ | ⟨a1, rfl⟩ | ⟨a1, a2, rfl⟩
      · simp only [if_true, Bool.true_or] at hO hE hK
        subst hO hE hK
        clear hB hr
        go_wp2_with fail
        go_quiet (fail)
        go_wp2_with fail
        go_ret3
        exact ⟨rfl, (fr.alloc _).drewN nq⟩
      all_goals
        simp only [Bool.false_or, Bool.false_eq_true, if_false] at hO hE hK
        rcases hB with ⟨b1, b2, rfl⟩ | ⟨b1, rfl⟩ | ⟨b1, b2, rfl⟩
        · simp only [if_true, Bool.true_or] at hO hE hK
          subst hO hE hK
          clear hr
          go_wp2_with fail
          go_quiet (fail)
          go_wp2_with fail
          go_ret3
          exact ⟨rfl, (fr.alloc _).drewN nq⟩
        all_goals
          simp only [Bool.false_or, Bool.false_eq_true, if_false] at hO hE hK
          have HO := Lib.hid hO
          have HE := Lib.hid hE
          have HK := Lib.hid hK
          clear hO hE hK hr
          go_wp2_with fail
          go_roundw
          case rel => exact ⟨j + 1, by omega, by go_num, HO.out, HE.out, HK.out, fr.alloc _⟩
          case measure => simp [intOf]; omega
    · have hjl : j = l.length := by omega
      subst hjl
      rw [List.drop_length] at hO hE hK
      have hO' : 0 = S := hO
      have hE' : 0 = E := hE
      have hK' : false = K := hK
      subst hO' hE' hK'
      clear hO hE hK
      go_wp2_with fail
      go_ret3
      exact ⟨rfl, fr⟩
end Go.Proofs.YtkkohdmneognlaaGreatDoor

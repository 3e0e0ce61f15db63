/- Contracts and plain mathematics of earlier stages: Heap, Base, Law, App, Wide, Ints, Framed, Mod, Each. -/
import Derived.WalkKit
import Derived.Maps.AppendAt
import Derived.Deep.AppendSrc
import Derived.Laws.IdiomStrings
import Derived.Test.YtnnacdkijeoeoaaRows
import Derived.ProofKit
import Derived.OpenShut
import Derived.Lib.Hide
import Derived.Deep.QuietTactic
import Derived.BigQuiet
import Derived.IntWalk
import Derived.Carry
import Derived.Below
import Derived.SizedLaws
import Derived.Lib.AppendStr
import Derived.Deep.RegionLaw
import Derived.Lib.SliceRun
import Derived.SliceStrings
import Derived.Laws.BitsAllLaws
namespace Go.Proofs.Ytnnacdkijeoeoaa
open Go.RowKit

/-- A byte as a cell. -/
def B (x : UInt8) : Value := .int .u8 (x.toNat : Int)

/-- All that was there, but the blocks of S, is as it was. -/
structure Fr (S : Nat → Prop) (w w' : World) : Prop where
  os : w'.os = w.os
  tape : w'.tape = w.tape
  output : w'.output = w.output
  size : w.heap.size ≤ w'.heap.size
  block : ∀ k, k < w.heap.size → ¬ S k → w'.heap[k]? = w.heap[k]?

namespace Fr
variable {S S' S'' : Nat → Prop} {w w1 w2 : World}
theorem refl (S : Nat → Prop) (w : World) : Fr S w w := ⟨rfl, rfl, rfl, Nat.le_refl _, fun _ _ _ => rfl⟩
theorem mono (h : Fr S w w1) (hs : ∀ k, k < w.heap.size → S k → S' k) : Fr S' w w1 := ⟨h.os, h.tape, h.output, h.size, fun k hk hn => h.block k hk fun e => hn (hs k hk e)⟩
theorem trans (h : Fr S w w1) (k : Fr S' w1 w2) (hs : ∀ k, k < w.heap.size → S' k → S k) : Fr S w w2 :=
  ⟨k.os.trans h.os, k.tape.trans h.tape, k.output.trans h.output, Nat.le_trans h.size k.size, fun i hi hn => (k.block i (Nat.lt_of_lt_of_le hi h.size) fun e => hn (hs i hi e)).trans (h.block i hi hn)⟩
theorem drew (h : Fr S w w1) : Fr S w w1.drew := ⟨h.os, h.tape, h.output, h.size, h.block⟩
theorem alloc (h : Fr S w w1) (o : Obj) : Fr S w (w1.alloc o) :=
  h.trans (S' := fun _ => False) ⟨rfl, rfl, rfl, by simp, fun k hk _ => Below.heap_alloc _ _ _ hk⟩ (fun _ _ h => h.elim)
theorem setCell (h : Fr S w w1) {p : Addr} (hp : S p.block ∨ w.heap.size ≤ p.block) (u : Value) : Fr S w (w1.setCell p u) :=
  ⟨h.os, h.tape, h.output, by simpa [World.setCell] using h.size, fun i hi hn => (Below.heap_setCell w1 p u i (by
    rintro rfl
    rcases hp with hp | hp
    · exact hn hp
    · omega)).trans (h.block i hi hn)⟩
theorem grown (h : Fr S w w1) {row : Option Nat} (hg : w1.grownBy w2 row) (hr : ∀ k, row = some k → S k ∨ w.heap.size ≤ k) : Fr S w w2 :=
  ⟨hg.os.trans h.os, hg.tape.trans h.tape, hg.output.trans h.output, Nat.le_trans h.size hg.size, fun i hi hn => (hg.block i (Nat.lt_of_lt_of_le hi h.size) (fun e => by
    rcases hr i e.symm with k | k
    · exact hn k
    · omega)).trans (h.block i hi hn)⟩
theorem below {B : Nat} (h : Below B w w1) : Fr (fun k => B ≤ k) w w1 := ⟨h.os, h.tape, h.output, h.size, fun k _ hk => h.block k (by omega)⟩
theorem toBelow0 (h : Fr (fun _ => False) w w1) : Below w.heap.size w w1 := ⟨h.os, h.tape, h.output, h.size, fun k hk => h.block k hk id⟩
theorem ofBelow (h : Below w.heap.size w w1) : Fr S w w1 := ⟨h.os, h.tape, h.output, h.size, fun k hk _ => h.block k hk⟩
theorem cell (h : Fr S w w1) {p : Addr} (hp : p.block < w.heap.size) (hn : ¬ S p.block) : w1.cell? p = w.cell? p := World.cell?_of_block (h.block p.block hp hn)
end Fr

/-- A whole block, no cell of it frozen. -/
def Is (w : World) (b : Nat) (t : TypeId) (cs : Array Value) : Prop := w.heap[b]? = some (.cells cs t (0, 0))
namespace Is
variable {w w1 : World} {b : Nat} {t : TypeId} {cs : Array Value}
theorem lt (h : Is w b t cs) : b < w.heap.size := lt_of_block h
theorem cell (h : Is w b t cs) (i : Nat) : w.cell? ⟨b, i, none⟩ = cs[i]? := cell_of_row w b i cs t (0, 0) h
theorem frozen (h : Is w b t cs) (i : Nat) : w.frozen? ⟨b, i, none⟩ = false := frozen_of_row w b i cs t h
theorem fr {S : Nat → Prop} (h : Is w b t cs) (f : Fr S w w1) (hn : ¬ S b) : Is w1 b t cs := (f.block b h.lt hn).trans h
theorem new (w : World) (t : TypeId) (cs : Array Value) : Is (w.alloc (.cells cs t)) w.heap.size t cs := heap_alloc_new w _
theorem alloc (h : Is w b t cs) (o : Obj) : Is (w.alloc o) b t cs := (Below.heap_alloc w o b h.lt).trans h
theorem drew (h : Is w b t cs) : Is w.drew b t cs := h
theorem set (h : Is w b t cs) (i : Nat) (u : Value) : Is (w.setCell ⟨b, i, none⟩ u) b t (cs.setIfInBounds i u) := by
  unfold Is at h ⊢
  simp [World.setCell, Array.getElem?_modify, h]
theorem far (h : Is w b t cs) {p : Addr} (hp : b ≠ p.block) (u : Value) : Is (w.setCell p u) b t cs := (Below.heap_setCell w p u b hp).trans h
end Is

/-- The block of an address that may be missing. -/
def blk (A : Option Addr) : Option Nat := A.map (·.block)

/-- The slice value with this address and this capacity owns the bytes bs (e: the type of a byte): nil, or the head of a row. -/
def Row (e : TypeId) (w : World) (A : Option Addr) (c : Nat) (bs : List UInt8) : Prop := w.ownsRow 0 e 1 (.slice A bs.length c) bs.length (bs.map B)
namespace Row
variable {e : TypeId} {w w1 : World} {A : Option Addr} {c : Nat} {bs : List UInt8}
theorem nil (e : TypeId) (w : World) : Row e w none 0 [] := World.ownsRow_nil w 0 e 1
theorem own (A : Option Addr) (n c : Nat) : (Value.slice A n c).ownBlock = blk A := by cases A <;> rfl
theorem lt (h : Row e w A c bs) : ∀ k, blk A = some k → k < w.heap.size := fun k hk => (World.ownsRow.lt h k (by rw [own]; exact hk)).2
theorem fr {S : Nat → Prop} (h : Row e w A c bs) (f : Fr S w w1) (hn : ∀ k, blk A = some k → ¬ S k) : Row e w1 A c bs := by
  refine ⟨h.1, ?_⟩
  rcases h.2 with k | ⟨g, cap, cur, hv, hb, hg, r⟩
  · exact .inl k
  · refine .inr ⟨g, cap, cur, hv, hb, ?_, r⟩
    have : A = some ⟨g, 0, none⟩ := by injection hv
    rw [f.block g (lt_of_block hg) (hn g (by rw [this]; rfl))]
    exact hg
theorem ne {b : Nat} {t : TypeId} {cs : Array Value} (h : Row e w A c bs) (k : Is w b t cs) (ht : e ≠ t) : blk A ≠ some b := by
  intro ha
  rcases h.2 with ⟨hv, _⟩ | ⟨g, cap, cur, hv, _, hg, _⟩
  · have : A = none := by injection hv
    rw [this] at ha; cases ha
  · have : A = some ⟨g, 0, none⟩ := by injection hv
    rw [this] at ha
    have hgb : g = b := by simpa [blk] using ha
    subst hgb
    unfold Is at k
    rw [hg] at k
    injection k with k
    injection k with _ k
    exact ht k
theorem cells (h : Row e w A c bs) (a : Addr) (ha : A = some a) : ∀ j (hj : j < bs.length), w.cell? (a.add j) = some (.int .u8 (bs[j].toNat : Int)) := by
  intro j hj
  rcases h.2 with ⟨hv, _⟩ | ⟨g, cap, cur, hv, _, hg, _⟩
  · have : A = none := by injection hv
    rw [this] at ha; cases ha
  · have hA : A = some ⟨g, 0, none⟩ := by injection hv
    have hag : a = ⟨g, 0, none⟩ := by rw [hA] at ha; injection ha with ha; exact ha.symm
    subst hag
    exact World.ownsRow.cells h (g := g) (by rw [own, hA]; rfl) j _ (by rw [List.getElem?_map, List.getElem?_eq_getElem hj]; rfl)
/-- its bytes as a text -/
theorem text {P : Program} (h : Row e w A c bs) {src dst : TypeId} (hs : P.underlying src = some (.slice e)) (he : P.underlying e = some (.int .u8)) (hd : P.underlying dst = some .string) :
    (convert src dst (.slice A bs.length c)).run P w = .ok (.string ⟨bs.toArray⟩) w := by
  rcases A with _ | a
  · have hl : bs.length = 0 := by
      rcases h.2 with ⟨_, k⟩ | ⟨g, cap, cur, hv, _⟩
      · exact k
      · injection hv with hv; cases hv
    have : bs = [] := List.eq_nil_of_length_eq_zero hl
    subst this
    rw [run_convert_bytes_string w src dst e none _ c hs he hd]
    simp [Conv.bytesToString]
    rfl
  · exact run_convert_bytes_back w src dst e a c bs hs he hd (h.cells a rfl)
end Row

/-- A slice that is read: n cells from an address on, in a block that was there. -/
def Rd (w : World) (A : Option Addr) (xs : List Value) : Prop := 0 < xs.length → ∃ b o, A = some ⟨b, o, none⟩ ∧ b < w.heap.size ∧ ∀ j u, xs[j]? = some u → w.cell? ⟨b, o + j, none⟩ = some u
namespace Rd
variable {w w1 : World} {A : Option Addr} {xs : List Value}
theorem fr {S : Nat → Prop} (h : Rd w A xs) (f : Fr S w w1) (hn : ∀ k, blk A = some k → ¬ S k) : Rd w1 A xs := fun h0 => by
  obtain ⟨b, o, hA, hb, hc⟩ := h h0
  refine ⟨b, o, hA, Nat.lt_of_lt_of_le hb f.size, fun j u hu => ?_⟩
  rw [f.cell (p := ⟨b, o + j, none⟩) hb (hn b (by rw [hA]; rfl))]
  exact hc j u hu
theorem one (w : World) (x : Value) (t : TypeId) : Rd (w.alloc (.cells #[x] t)) (some ⟨w.heap.size, 0, none⟩) [x] := fun _ =>
  ⟨w.heap.size, 0, rfl, by simp, fun j u hu => by
    have hj : j = 0 := by
      have := (List.getElem?_eq_some_iff.1 hu).1
      simpa using this
    subst hj
    simp at hu
    subst hu
    simp [World.cell?_alloc_at]⟩
end Rd
end Go.Proofs.Ytnnacdkijeoeoaa

namespace Go.Proofs.Ytnnacdkijeoeoaa
open Go.RowKit

theorem Try.infoB : (Try.prog.info? 5).map (fun i => (i.zero, i.size, i.bytes)) = some (some (.int .u8 0), 1, 1) := by kernel_rfl
/-- the bytes of a text -/
def bytesOf (s : ByteArray) : List UInt8 := s.data.toList
theorem Fr.drewN {S : Nat → Prop} {w w1 : World} (h : Fr S w w1) (n : Nat) : Fr S w (w1.drewN n) := ⟨h.os, h.tape, h.output, h.size, h.block⟩

theorem Rd.pre {w : World} {A : Option Addr} {xs ys : List Value} (h : Rd w A (xs ++ ys)) : Rd w A xs := fun h0 => by
  obtain ⟨b, o, hA, hb, hc⟩ := h (by rw [List.length_append]; omega)
  refine ⟨b, o, hA, hb, fun j u hu => hc j u ?_⟩
  rw [List.getElem?_append_left (List.getElem?_eq_some_iff.1 hu).1]
  exact hu
end Go.Proofs.Ytnnacdkijeoeoaa

namespace Go.Proofs.Ytnnacdkijeoeoaa
open Go.ChangeShapes Go.WideShapes Go.ChangeAt Go.RowKit

theorem Try.laidOut : laidOutB Try.prog = true := by kernel_rfl
theorem Try.own : ownKnob Try.prog.godebug = none := by kernel_rfl

theorem args_stay {H : Type} {enc : TypeId × Value → H} {P : Program} (hl : laidOutB P = true) {W W' : World} (hb : Below W.heap.size W W') :
    ∀ {ts : List TypeId} {vs : List Value} {ds : List (DataW H)} {ps : List MemPlace}, (∀ t ∈ ts, P.readableRec t = true ∧ t < P.types.size) →
      DataW.TrodAll enc P W 0 (fun _ => true) true ts vs ds ps → (∀ x ∈ ps, x.block < W.heap.size) → DataW.TrodAll enc P W' 0 (fun b => decide (b < W.heap.size)) true ts vs ds ps
  | [], _, _, _, _, h, _ => by
    obtain ⟨rfl, rfl, rfl⟩ := trodAll_nil h
    exact trodAll_mk0
  | t :: ts, _, _, _, hr, h, hlt => by
    obtain ⟨v, vs, d, ds, p, ps, rfl, rfl, rfl, h0, r0⟩ := trodAll_cons h
    exact trodAll_cons_mk (Below.trod hl (hr t (by simp)).1 (hr t (by simp)).2 h0 hb (fun x hx => hlt x (by simp [hx])))
      (args_stay hl hb (fun u hu => hr u (by simp [hu])) r0 (fun x hx => hlt x (by simp [hx])))

/-- The law's specification is met. -/
theorem law_post {H : Type} {enc : TypeId × Value → H} {f : Func} {s : ChangeSpec} {W W' : World} {args : Array Value} {ds gs : List (DataW H)} {before : List MemPlace}
    (hW : DataW.Whole enc Try.prog f.params.toList s.vars false W args.toList ds gs before) (hv : s.vars = []) (hres : f.resultTypes = #[4])
    (hts : ∀ t ∈ f.params.toList, Try.prog.readableRec t = true ∧ t < Try.prog.types.size)
    (hfn : (s.fn H ds).results = [.lit (.bool true)]) (hargs : (s.fn H ds).args = ds) (hvars : (s.fn H ds).vars = []) (hb : Below W.heap.size W W') :
    ∃ v, Ending.returned (.bool true) = .returned v ∧ s.post enc Try.prog f false true false false W args v W' := by
  have hlt : ∀ p ∈ before, p.block < W.heap.size := fun p hp => hW.lt p hp
  have hW' := hW
  obtain ⟨p, q, hA, hV, rfl, hfz, hnd⟩ := hW
  rw [hv] at hV
  obtain ⟨rfl, rfl⟩ := trodVars_none hV
  refine ⟨_, rfl, ds, [], _, [], p, [], hW', ?_, ?_, ?_, hb.frame _, fun h => by cases h⟩
  · rw [List.append_nil, hfn, hres]
    exact trodAll_cons_mk (shut_bool Try.underlying4 _) trodAll_mk0
  · rw [List.append_nil, hargs]
    exact args_stay Try.laidOut hb hts hA (fun x hx => hlt x (by simp [hx]))
  · rw [List.append_nil, hv, hvars]
    rfl
end Go.Proofs.Ytnnacdkijeoeoaa

namespace Go.Proofs.Ytnnacdkijeoeoaa
open Go.RowKit

end Go.Proofs.Ytnnacdkijeoeoaa

namespace Go.Proofs.Ytnnacdkijeoeoaa
open Go.RowKit

section
variable {w w1 : World} {base size n : Nat} {e : TypeId} {v : Value} {xs : List Value}
theorem wide_fr {S : Nat → Prop} (h : w.ownsRow base e size v n xs) (f : Fr S w w1) (hn : ∀ k, v.ownBlock = some k → ¬ S k) : w1.ownsRow base e size v n xs := by
  refine ⟨h.1, ?_⟩
  rcases h.2 with k | ⟨g, cap, cur, hv, hb, hg, r⟩
  · exact .inl k
  · refine .inr ⟨g, cap, cur, hv, hb, ?_, r⟩
    rw [f.block g (lt_of_block hg) (hn g (by rw [hv]; rfl))]
    exact hg
theorem wide_is_ne {b : Nat} {t : TypeId} {cs : Array Value} (h : w.ownsRow base e size v n xs) (k : Is w b t cs) (ht : e ≠ t) : v.ownBlock ≠ some b := by
  intro ha
  rcases h.2 with ⟨hv, _⟩ | ⟨g, cap, cur, hv, _, hg, _⟩
  · rw [hv] at ha; cases ha
  · rw [hv] at ha
    have hgb : g = b := by simpa [Value.ownBlock] using ha
    subst hgb
    unfold Is at k
    rw [hg] at k
    injection k with k
    injection k with _ k
    exact ht k
theorem wide_ne {b2 n2 s2 : Nat} {e2 : TypeId} {v2 : Value} {xs2 : List Value} (h1 : w.ownsRow base e size v n xs) (h2 : w.ownsRow b2 e2 s2 v2 n2 xs2) (he : e ≠ e2) : ∀ k, v.ownBlock = some k → v2.ownBlock ≠ some k := by
  intro k k1 k2
  rcases h1.2 with ⟨hv, _⟩ | ⟨g1, c1, u1, hv1, _, hg1, _⟩
  · rw [hv] at k1; cases k1
  · rcases h2.2 with ⟨hv, _⟩ | ⟨g2, c2, u2, hv2, _, hg2, _⟩
    · rw [hv] at k2; cases k2
    · rw [hv1] at k1
      rw [hv2] at k2
      have e1 : g1 = k := by simpa [Value.ownBlock] using k1
      have e2 : g2 = k := by simpa [Value.ownBlock] using k2
      rw [e1] at hg1
      rw [e2, hg1] at hg2
      injection hg2 with h
      injection h with _ h
      exact he h
theorem wide_form (h : w.ownsRow base e size v n xs) : ∃ A c, v = .slice A n c ∧ n ≤ c ∧ c ≤ maxLen ∧ (0 < n → ∃ g, A = some ⟨g, 0, none⟩ ∧ g < w.heap.size) ∧ (A = none → n = 0 ∧ c = 0) := by
  rcases h.2 with ⟨hv, h0⟩ | ⟨g, cap, cur, hv, _, hg, hnc, hm, _⟩
  · exact ⟨none, 0, by rw [hv, h0], by omega, by simp [maxLen], fun h => by omega, fun _ => ⟨h0, rfl⟩⟩
  · exact ⟨_, _, hv, hnc, hm, fun _ => ⟨g, rfl, lt_of_block hg⟩, fun h => by cases h⟩
theorem wide_rd {A : Option Addr} {c : Nat} (h : w.ownsRow base e size (.slice A n c) n xs) : Rd w A xs := fun h0 => by
  rcases h.2 with ⟨_, k⟩ | ⟨g, cap, cur, hv, _, hg, _⟩
  · have := h.1
    rw [k, Nat.zero_mul] at this
    omega
  · have hA : A = some ⟨g, 0, none⟩ := by injection hv
    refine ⟨g, 0, hA, lt_of_block hg, fun j u hu => ?_⟩
    have k := World.ownsRow.cells h (g := g) (by rw [Row.own, hA]; rfl) j u hu
    have e : (⟨g, 0, none⟩ : Addr).add j = ⟨g, 0 + j, none⟩ := by unfold Addr.add; split <;> simp_all
    rw [e] at k
    exact k
end

theorem run_append_wide {P : Program} (w : World) (base : Nat) (t ty e : TypeId) (i : TypeInfo) (z : Value) (size bytes : Nat) (ht : P.underlying t = some (.slice e)) (hi : P.info? e = some i) (hz : i.zero = some z)
    (hsize : i.size = size) (hby : i.bytes = bytes) (hzs : z.cells.size = size) (hs0 : 0 < size) (v : Value) (n : Nat) (xs : List Value) (hown : w.ownsRow base e size v n xs)
    (A : Option Addr) (c m : Nat) (news : List Value) (hm : news.length = m * size) (hr : Rd w A news) (h1 : ∀ u ∈ news, u.oneCell' = true) (h63 : n + m ≤ maxLen) (hbytes : (n + m) * bytes ≤ 140737488355328) (hbase : base ≤ w.heap.size) :
    ∃ v' w', (Builtin.append_ #[t, t] ty #[v, .slice A m c]).run P w = .ok v' w' ∧ w'.ownsRow base e size v' (n + m) (xs ++ news) ∧ w.grownBy w' v.ownBlock ∧ (v'.ownBlock = v.ownBlock ∨ v'.ownBlock = some w.heap.size) := by
  have hcells : ∀ a, A = some a → ∀ j u, news[j]? = some u → w.cell? (a.add j) = some u := by
    intro a hA j u hu
    have hpos : 0 < news.length := by have := (List.getElem?_eq_some_iff.1 hu).1; omega
    obtain ⟨b, o, hA', _, hc⟩ := hr hpos
    have ha : a = ⟨b, o, none⟩ := by rw [hA] at hA'; injection hA'
    have hx := hc j u hu
    rw [ha]
    unfold Addr.add
    split
    · rename_i hj; subst hj; exact hx
    · exact hx
  rcases A with _ | a
  · have h0 : news.length = 0 := by
      rcases Nat.eq_zero_or_pos news.length with h | h
      · exact h
      · obtain ⟨_, _, hA, _⟩ := hr h
        cases hA
    have hn : news = [] := List.eq_nil_of_length_eq_zero h0
    subst hn
    have hm0 : m = 0 := by
      rcases Nat.eq_zero_or_pos m with h | h
      · exact h
      · have := Nat.mul_pos h hs0
        simp at hm
        omega
    subst hm0
    refine ⟨v, w, ?_, by simpa using hown, World.grownBy.refl w _, .inl rfl⟩
    rcases hown.2 with ⟨rfl, rfl⟩ | ⟨g, cap, cur, rfl, _, _, hnc, _⟩
    · simp [Builtin.append_, run_underlying ht, sizeOf, typeInfo, hi, Builtin.lenOf, Builtin.firstCells]
    · simp [Builtin.append_, run_underlying ht, sizeOf, typeInfo, hi, Builtin.lenOf, Builtin.firstCells, hnc, storeCells]
  · obtain ⟨v', w', hrun, h2, h3, _, h5⟩ := run_append_own_at (P := P) w base t ty e i z size bytes ht hi hz hsize hby hzs hs0 v n xs hown a m c news hm (hcells a rfl) h1 h63 hbytes hbase
    exact ⟨v', w', hrun, h2, h3, h5⟩

theorem wp_append_wide {P : Program} (w : World) {o : Oper} {a : Act} {K : Act → World → Prop} {Q : Exit → Act → World → Prop} (s x : Operand) (t : TypeId)
    (ho : o.op = .call { callee := .builtin .append, args := #[s, x], argTypes := #[t, t] })
    (base : Nat) (e : TypeId) (i : TypeInfo) (z : Value) (size bytes : Nat) (ht : P.underlying t = some (.slice e)) (hi : P.info? e = some i) (hz : i.zero = some z)
    (hsize : i.size = size) (hby : i.bytes = bytes) (hzs : z.cells.size = size) (hs0 : 0 < size) (v : Value) (n : Nat) (xs : List Value) (hs : a.eval s = v) (hown : w.ownsRow base e size v n xs)
    (A : Option Addr) (c m : Nat) (news : List Value) (hm : news.length = m * size) (hx : a.eval x = .slice A m c) (hr : Rd w A news) (h1 : ∀ u ∈ news, u.oneCell' = true) (h63 : n + m ≤ maxLen) (hbytes : (n + m) * bytes ≤ 140737488355328) (hbase : base ≤ w.heap.size)
    (h : ∀ v' w', w'.ownsRow base e size v' (n + m) (xs ++ news) → w.grownBy w' v.ownBlock → (v'.ownBlock = v.ownBlock ∨ v'.ownBlock = some w.heap.size) → K (a.put o.dst v') w') : o.wp P a w K Q := by
  obtain ⟨v', w', hrun, h2, h3, h4⟩ := run_append_wide (P := P) w base t o.type e i z size bytes ht hi hz hsize hby hzs hs0 v n xs hown A c m news hm hr h1 h63 hbytes hbase
  unfold Oper.wp execOp
  simp only [ho, resolve, invoke, builtin, Sem.run_bind, Sem.run_pure, Result.andThen_ok, List.map_toArray, List.map_cons, List.map_nil, hs, hx, hrun]
  exact h v' w' h2 h3 h4
theorem wpList_append_wide {P : Program} (w : World) {ops : Array Oper} {rest : List Oper} {o : Oper} {a : Act} {Q : Exit → Act → World → Prop} (hgd : o.guard = none) (s x : Operand) (t : TypeId)
    (ho : o.op = .call { callee := .builtin .append, args := #[s, x], argTypes := #[t, t] })
    (base : Nat) (e : TypeId) (i : TypeInfo) (z : Value) (size bytes : Nat) (ht : P.underlying t = some (.slice e)) (hi : P.info? e = some i) (hz : i.zero = some z)
    (hsize : i.size = size) (hby : i.bytes = bytes) (hzs : z.cells.size = size) (hs0 : 0 < size) (v : Value) (n : Nat) (xs : List Value) (hs : a.eval s = v) (hown : w.ownsRow base e size v n xs)
    (A : Option Addr) (c m : Nat) (news : List Value) (hm : news.length = m * size) (hx : a.eval x = .slice A m c) (hr : Rd w A news) (h1 : ∀ u ∈ news, u.oneCell' = true) (h63 : n + m ≤ maxLen) (hbytes : (n + m) * bytes ≤ 140737488355328) (hbase : base ≤ w.heap.size)
    (h : ∀ v' w', w'.ownsRow base e size v' (n + m) (xs ++ news) → w.grownBy w' v.ownBlock → (v'.ownBlock = v.ownBlock ∨ v'.ownBlock = some w.heap.size) → wpList P ops Q rest (a.put o.dst v') w') :
    wpList P ops Q (o :: rest) a w :=
  wpList_plain hgd fun _ hK => wp_append_wide w s x t ho base e i z size bytes ht hi hz hsize hby hzs hs0 v n xs hs hown A c m news hm hx hr h1 h63 hbytes hbase fun v' w' h2 h3 h4 => hK _ _ (h v' w' h2 h3 h4)
end Go.Proofs.Ytnnacdkijeoeoaa

namespace Go.Proofs.Ytnnacdkijeoeoaa
open Go.ChangeShapes Go.WideShapes Go.ChangeAt Go.RowKit

theorem bytes_int : Try.prog.bytesOf 3 = 8 := by kernel_rfl
theorem Try.cellInt : Try.prog.cellsOf 3 = 1 := by kernel_rfl

theorem rd_of {w : World} {a : Addr} {xs : List Value} (h : ∀ i u, xs[i]? = some u → w.cell? (a.add i) = some u) : Rd w (some a) xs := fun h0 => by
  have h00 := h 0 xs[0] (List.getElem?_eq_getElem h0)
  have e0 : a.add 0 = a := by simp [Addr.add]
  rw [e0] at h00
  have hs := World.cell?_spot h00
  obtain ⟨g, o, spot⟩ := a
  simp only at hs
  subst hs
  exact ⟨g, o, rfl, World.block_lt_of_cell? w ⟨g, o, none⟩ h00, fun j u hu => by rw [← add_plain]; exact h j u hu⟩

theorem lits_len {H : Type} (l : List Int) : (lits .i64 l : List (DataW H)).length = l.length := by simp [lits]

section
variable {H : Type} {enc : TypeId × Value → H} {w : World} {base : Nat}
set_option maxRecDepth 100000 in
theorem open_list {v : Value} {d : DataW H} {ps : List MemPlace} (hv : Value.okWide Try.prog w .any base 25 v) (h : DataW.Trod enc Try.prog w 0 (fun _ => true) true 25 v d ps) :
    ∃ (A : Option Addr) (c : Nat) (l : List Int), v = .slice A l.length c ∧ Rd w A (l.map (Value.int .i64)) ∧ ((d = .nil ∧ l = []) ∨ ∃ rest, d = .slice (lits .i64 l) rest) := by
  obtain ⟨a0, len0, cap0, rfl⟩ := okWide_slice Try.underlying25 hv
  obtain ⟨fuel, hf⟩ := h
  rcases open_ints Try.underlying25 Try.underlying3 Try.cellInt hf with ⟨hcs, hx⟩ | ⟨a, len, cap, zs, hcs, _, hl, hm, hz, hx, hcell, _⟩
  · simp only [Value.cells, List.cons.injEq, Value.slice.injEq, and_true] at hcs
    obtain ⟨rfl, rfl, rfl⟩ := hcs
    simp only [Prod.mk.injEq] at hx
    exact ⟨none, 0, [], rfl, fun h => by simp at h, .inl ⟨hx.1, rfl⟩⟩
  · simp only [Value.cells, List.cons.injEq, Value.slice.injEq, and_true] at hcs
    obtain ⟨rfl, rfl, rfl⟩ := hcs
    have hzc : zs.length = cap0 := by simpa using hz
    simp only [Prod.mk.injEq] at hx
    have hlen : (zs.take len0).length = len0 := by rw [List.length_take]; omega
    refine ⟨some a, cap0, zs.take len0, by rw [hlen], rd_of fun i u hu => ?_, .inr ⟨_, hx.1⟩⟩
    have hi : i < len0 := by
      have := (List.getElem?_eq_some_iff.1 hu).1
      rw [List.length_map, hlen] at this
      exact this
    rw [hcell i (by omega)]
    rw [List.getElem?_map, List.getElem?_take, if_pos hi, List.getElem?_eq_getElem (by omega)] at hu
    simp only [Option.map_some, Option.some.injEq] at hu
    rw [← hu, List.getD_eq_getElem?_getD, List.getElem?_eq_getElem (by omega)]
    rfl
end
end Go.Proofs.Ytnnacdkijeoeoaa

namespace Go.Proofs.Ytnnacdkijeoeoaa
open Go.RowKit

/-- a world to which a frame leads from wo -/
structure Fro (wo : World) where
  w : World
  f : Fr (fun _ => False) wo w
instance (wo : World) : Nonempty (Fro wo) := ⟨⟨wo, Fr.refl _ _⟩⟩

theorem region_fro {P : Program} {id : Nat} {Q : Exit → Act → World → Prop} {a : Act} {w : World} {l : List Oper} (hm : P.follows .mixedOrders = true) (hB : Region.lexB .any l.toArray = true)
    (h : wpQuiet P l.toArray (fun w' => ∃ u : Fro w, w' = u.w) (fun a' => ∀ w', (∃ u : Fro w, w' = u.w) → Q .normal a' w') l a) : (Code.region id l.toArray true).wp P Q a w :=
  wp_region_quiet (C := fun w' => ∃ u : Fro w, w' = u.w) hm hB ⟨⟨w.drew, (Fr.refl _ _).drew⟩, rfl⟩ (by simpa using h)
theorem call_fro {P : Program} {f : FuncId} {args : Array Value} {v : Value} {wo : World} {u : Fro wo} (h : Calls P f args u.w fun e w' => e = .returned v ∧ Fr (fun _ => False) u.w w') :
    Calls P f args u.w fun e w'' => e = .returned v ∧ ∃ m : Fro wo, w'' = m.w :=
  h.mono fun _ w'' ⟨he, hf⟩ => ⟨he, ⟨w'', u.f.trans hf fun _ _ h => h⟩, rfl⟩
theorem cell_fro {wo : World} {p : Addr} {v : Value} (h : wo.cell? p = some v) : ∀ u : Fro wo, u.w.cell? p = some v := fun u =>
  (u.f.cell (World.block_lt_of_cell? _ p h) id).trans h
theorem rd_fro {wo : World} {A : Option Addr} {xs : List Value} (h : Rd wo A xs) : ∀ u : Fro wo, Rd u.w A xs := fun u => h.fr u.f fun _ _ => id
end Go.Proofs.Ytnnacdkijeoeoaa

namespace Go.Proofs.Ytnnacdkijeoeoaa
open Go.RowKit

theorem Try.infoI : (Try.prog.info? 3).map (fun i => (i.zero, i.size, i.bytes)) = some (some (.int .i64 0), 1, 8) := by kernel_rfl
theorem umod (a : Int) (m : Nat) (h0 : 0 < m) (h : m ≤ 4611686018427387904) : ∃ n : Nat, wrap64 ((IntKind.u64.wrap a).tmod (m : Int)) = n ∧ n < m := by
  have hw : 0 ≤ IntKind.u64.wrap a := by rw [IntKind.wrap_u64]; omega
  rw [Int.tmod_eq_emod_of_nonneg hw]
  have h1 := Int.emod_nonneg (IntKind.u64.wrap a) (b := (m : Int)) (by omega)
  have h2 := Int.emod_lt_of_pos (IntKind.u64.wrap a) (b := (m : Int)) (by omega)
  generalize IntKind.u64.wrap a % (m : Int) = x at *
  rw [IntWalk.wrap64_in _ ⟨by omega, by omega⟩]
  exact ⟨x.toNat, by omega, by omega⟩
theorem own_one (w : World) (base : Nat) (t : TypeId) (x : Int) (hb : base ≤ w.heap.size) : (w.alloc (.cells #[.int .i64 x] t)).ownsRow base t 1 (.slice (some ⟨w.heap.size, 0, none⟩) 1 1) 1 [.int .i64 x] :=
  ⟨by simp, .inr ⟨w.heap.size, 1, #[.int .i64 x], rfl, hb, heap_alloc_new w _, Nat.le_refl _, by unfold maxLen; omega, by simp, by simp⟩⟩
set_option maxHeartbeats 800000 in
theorem sameints_any {w : World} {A A' : Option Addr} {c c' : Nat} {l : List Int} (hl : Rd w A (l.map (Value.int .i64))) (hl' : Rd w A' (l.map (Value.int .i64))) (hlen : l.length ≤ 140737488355328) :
    Calls Try.prog 22 #[.slice A l.length c, .slice A' l.length c'] w fun e w' => e = .returned (.bool true) ∧ Fr (fun _ => False) w w' := by
  go_enter Try.func22, Try.ntmps22
  go_wp2
  go_loopw [13] (fun i wr => ∃ k, k ≤ l.length ∧ i = .int .i64 (k : Nat) ∧ Fr (fun _ => False) w wr) (fun i _ => l.length - (intOf i).toNat)
  case atStart => exact ⟨0, Nat.zero_le _, rfl, Fr.refl _ _⟩
  case round =>
    obtain ⟨k, hk, rfl, g1⟩ := hrel
    by_cases hlt : k < l.length
    · obtain ⟨g, o, rfl, hg, hc⟩ := hl (by simp; omega)
      obtain ⟨g', o', rfl, hg', hc'⟩ := hl' (by simp; omega)
      have e1 := hc k (.int .i64 l[k]) (by rw [List.getElem?_map, List.getElem?_eq_getElem hlt]; rfl)
      have e2 := hc' k (.int .i64 l[k]) (by rw [List.getElem?_map, List.getElem?_eq_getElem hlt]; rfl)
      have c1 : wr.cell? ⟨g, o + k, none⟩ = some (.int .i64 l[k]) := (g1.cell (p := ⟨g, o + k, none⟩) hg id).trans e1
      have c2 : wr.cell? ⟨g', o' + k, none⟩ = some (.int .i64 l[k]) := (g1.cell (p := ⟨g', o' + k, none⟩) hg' id).trans e2
      clear hc hc' e1 e2 hl hl'
      generalize l[k] = x at *
      go_wp2
      go_quiet (fail)
      go_wp2
      go_roundw
      case rel => exact ⟨k + 1, by omega, by go_num, g1.drewN nq⟩
      case measure => simp [intOf]; omega
    · go_wp2
      go_ret
      exact ⟨rfl, g1⟩
end Go.Proofs.Ytnnacdkijeoeoaa

namespace Go.Proofs.Ytnnacdkijeoeoaa

/-- how many of the first n operations have not come up yet -/
def left (listed : Array Bool) : Nat → Nat
  | 0 => 0
  | n + 1 => left listed n + if listed.getD n true = false then 1 else 0
theorem left_set {listed : Array Bool} {i : Nat} (h : listed.getD i true = false) : ∀ n, left (listed.setIfInBounds i true) n + (if i < n then 1 else 0) = left listed n
  | 0 => by simp [left]
  | n + 1 => by
    have ih := left_set h n
    unfold left
    by_cases hn : i = n
    · subst hn
      have hlt : i < listed.size := by
        rcases Nat.lt_or_ge i listed.size with h' | h'
        · exact h'
        · simp [Array.getElem?_eq_none h'] at h
      rw [if_pos h, if_pos (Nat.lt_succ_self i)]
      rw [if_neg (Nat.lt_irrefl i)] at ih
      have : ¬ ((listed.setIfInBounds i true).getD i true = false) := by simp [hlt]
      rw [if_neg this]
      omega
    · rw [getD_set_ne true hn]
      have e : (if i < n + 1 then 1 else 0) = (if i < n then 1 else 0) := by
        by_cases h1 : i < n
        · simp only [h1, if_true, show i < n + 1 from by omega]
        · simp only [h1, if_false, show ¬ i < n + 1 from by omega]
      rw [e]
      omega
theorem left_le (listed : Array Bool) : ∀ n, left listed n ≤ n
  | 0 => Nat.le_refl _
  | n + 1 => by
    have := left_le listed n
    unfold left
    split <;> omega

/-- every operand is what an operation yields that must come before, or is written by nobody here; everybody waits for earlier ones alone -/
def tidy (md : Region.Mode) (ops : Array Oper) (n : Nat) : Bool :=
  (List.range ops.size).all fun i => match ops[i]? with
    | none => true
    | some o => (match o.dst with | some d => decide (d < n) | none => true) && o.after.all (fun e => decide (e.on < i)) &&
        (o.looksAt ops).all fun t => (List.range ops.size).all fun j => (ops[j]?).bind (·.dst) != some t || o.after.any fun e => e.on == j && Region.binds md e

/-- what an operation does: it yields a value with the property, and leaves such a world -/
def Oper.gives (P : Program) (ops : Array Oper) (o : Oper) (a : Act) (w : World) (φ : Value → World → Prop) : Prop :=
  if Region.wanted o (yielded ops a.tmps) = true then
    match (execOp a.eval o).run P w with
    | .ok (.value v) w' => φ v w'
    | .ok .skip w' => φ undef w'
    | .ok (.enter f args) w' => Calls P f args w' fun e w'' => ∃ v, e = .returned v ∧ φ v w''
    | _ => False
  else φ undef w
theorem Oper.gives_wpOp {P : Program} {ops : Array Oper} {Q : Exit → Act → World → Prop} {i : Nat} {o : Oper} {a : Act} {w : World} {φ : Value → World → Prop} {K : Act → World → Prop}
    (hi : ops[i]? = some o) (h : Oper.gives P ops o a w φ) (hK : ∀ v w', φ v w' → K (a.put o.dst v) w') : wpOp P ops Q i K a w := by
  unfold wpOp
  rw [hi]
  unfold Oper.gives at h
  by_cases hw : Region.wanted o (yielded ops a.tmps) = true
  · rw [if_pos hw] at h
    simp only [hw, if_true]
    refine .inl ?_
    unfold Oper.wp
    generalize (execOp a.eval o).run P w = r at *
    match r, h with
    | .ok (.value v) w', h => exact hK _ _ h
    | .ok .skip w', h => exact hK _ _ h
    | .ok (.enter f args) w', h => exact Calls.mono h fun e w'' ⟨v, he, hv⟩ => by subst he; exact hK _ _ hv
  · rw [if_neg hw] at h
    simp only [hw, if_false, Bool.false_eq_true]
    exact hK _ _ h

section
variable {P : Program} {ops : Array Oper} {Q : Exit → Act → World → Prop} {md : Region.Mode}
theorem eval_put_same {a : Act} {d : Tmp} {v : Value} (h : d < a.tmps.size) : (a.put (some d) v).eval (.tmp d) = v := by
  simp [Act.put, Act.eval, h]
theorem eval_put_other {a : Act} {x : Option Tmp} {t : Tmp} {v : Value} (h : x ≠ some t) : (a.put x v).eval (.tmp t) = a.eval (.tmp t) :=
  Act.eval_put fun d hd e => h (by rw [hd]; injection e with e; rw [e])
theorem put_size (a : Act) (x : Option Tmp) (v : Value) : (a.put x v).tmps.size = a.tmps.size := by cases x <;> simp [Act.put]
theorem put_defers (a : Act) (x : Option Tmp) (v : Value) : (a.put x v).defers = a.defers := by cases x <;> rfl

end
end Go.Proofs.Ytnnacdkijeoeoaa


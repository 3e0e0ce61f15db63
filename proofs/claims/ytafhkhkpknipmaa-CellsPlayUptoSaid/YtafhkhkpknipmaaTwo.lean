/- Two memories side by side, the program's and the document's, that hold the same: what each call leaves of that. -/
import Derived.Test.YtafhkhkpknipmaaOps
import Derived.Test.YtafhkhkpknipmaaSeen
namespace Go.Proofs.Ytafhkhkpknipmaa
open Go.RowKit Go.Maps

/-- The program's memory m and the document's m2, apart, both made behind w. -/
structure Two (w W : World) (b : Nat) (r : Option Nat) (R : Rf) (m m2 : Mm) : Prop where
  mem : Mem W b r m
  ref : RM W R m2
  apart : ∀ j, Foot b r j → ¬ R.all j
  lo : ∀ j, Foot b r j → w.heap.size ≤ j
  lor : ∀ j, R.all j → w.heap.size ≤ j
  fr : Fr (fun j => w.heap.size ≤ j) w W
/-- few acts, each page worn a little; the cuts are numbers of 64 bits -/
structure Few (R : Rf) (m : Mm) (k : Nat) : Prop where
  acts : m.acts ≤ k
  worn : ∀ p, m.worn p ≤ k
  wf : ∀ x ∈ R.l, (ki x.1).wf = true ∧ (ki x.2).wf = true

theorem mem_foot {w : World} {b : Nat} {r : Option Nat} {m : Mm} (h : Mem w b r m) (j : Nat) (hj : Foot b r j) : j < w.heap.size := by
  rcases hj with rfl | hj
  · exact h.blt
  · exact h.lt j hj
namespace Two
variable {w W W1 W2 : World} {b : Nat} {r : Option Nat} {R : Rf} {m m2 m' m2' : Mm}
theorem keep (h : Two w W b r R m m2) {S : Nat → Prop} (f : Fr S W W1) (h1 : ∀ j, Foot b r j → ¬ S j) (h2 : ∀ j, R.all j → ¬ S j) (h3 : ∀ j, S j → w.heap.size ≤ j) : Two w W1 b r R m m2 :=
  ⟨h.mem.fr f (h1 _ (.inl rfl)) fun k hk => h1 k (.inr hk), h.ref.fr f h2, h.apart, h.lo, h.lor, h.fr.trans f fun j _ hj => h3 j hj⟩
theorem nil (h : Two w W b r R m m2) (f : Fr (fun _ => False) W W1) : Two w W1 b r R m m2 := h.keep f (fun _ _ => id) (fun _ _ => id) fun _ hj => hj.elim
theorem new' (h : Two w W b r R m m2) (f : Fr (fun j => W2.heap.size ≤ j) W W1) (h2 : W.heap.size ≤ W2.heap.size) : Two w W1 b r R m m2 :=
  h.keep f (fun j hj k => by have := mem_foot h.mem j hj; omega) (fun j hj k => by have := h.ref.lt j hj; omega) fun j hj => by have := h.fr.size; omega
/-- memory that came behind both is written -/
theorem own (h : Two w W b r R m m2) (f : Fr (fun j => W.heap.size ≤ j) W W1) : Two w W1 b r R m m2 := h.new' (W2 := W) f (Nat.le_refl _)
theorem stepm (h : Two w W b r R m m2) (k : Mem W1 b r m') (f : Fr (Foot b r) W W1) : Two w W1 b r R m' m2 :=
  ⟨k, h.ref.fr f fun j hj hf => h.apart j hf hj, h.apart, h.lo, h.lor, h.fr.trans f fun j _ hj => h.lo j hj⟩
theorem stepr (h : Two w W b r R m m2) (k : RM W1 R m2') (f : Fr R.all W W1) : Two w W1 b r R m m2' :=
  ⟨h.mem.fr f (fun hj => h.apart _ (.inl rfl) hj) fun j hr hj => h.apart j (.inr hr) hj, k, h.apart, h.lo, h.lor, h.fr.trans f fun j _ hj => h.lor j hj⟩
theorem armm (h : Two w W b r R m m2) (k : Mem W1 b (some W.heap.size) m') (f : Fr (fun j => j = b) W W1) : Two w W1 b (some W.heap.size) R m' m2 := by
  refine ⟨k, h.ref.fr f fun j hj hf => h.apart j (.inl hf) hj, ?_, ?_, h.lor, h.fr.trans f fun j _ hj => h.lo j (.inl hj)⟩
  · rintro j (rfl | hj) hr
    · exact h.apart j (.inl rfl) hr
    · cases hj
      exact Nat.lt_irrefl _ (h.ref.lt _ hr)
  · rintro j (rfl | hj)
    · exact h.lo j (.inl rfl)
    · cases hj
      exact h.fr.size
theorem armr (h : Two w W b r R m m2) {A : Option Addr} {c : Nat} {l : List (Int × Int)} (k : RM W1 { R with A := A, c := c, l := l } m2') (f : Fr (fun j => j = R.b) W W1) (hA : ∀ j, blk A = some j → W.heap.size ≤ j) : Two w W1 b r { R with A := A, c := c, l := l } m m2' := by
  refine ⟨h.mem.fr f (fun hj => h.apart _ (.inl rfl) (.inl hj)) fun j hr hj => h.apart j (.inr hr) (.inl hj), k, ?_, h.lo, ?_, h.fr.trans f fun j _ hj => h.lor j (.inl hj)⟩
  · intro j hf hr
    have hj := mem_foot h.mem j hf
    rcases hr with e | e | e | e | e
    · exact h.apart j hf (.inl e)
    · exact h.apart j hf (.inr (.inl e))
    · exact h.apart j hf (.inr (.inr (.inl e)))
    · exact h.apart j hf (.inr (.inr (.inr (.inl e))))
    · have := hA j e
      omega
  · intro j hr
    rcases hr with e | e | e | e | e
    · exact h.lor j (.inl e)
    · exact h.lor j (.inr (.inl e))
    · exact h.lor j (.inr (.inr (.inl e)))
    · exact h.lor j (.inr (.inr (.inr (.inl e))))
    · exact Nat.le_trans h.fr.size (hA j e)
/-- both are taken up again: new memories, and the old one is still there -/
theorem again (h : Two w W b r R m m2) {Q : Rf} (k : Mem W1 W.heap.size none m') (f : Fr (fun _ => False) W W1) (k2 : RM W2 Q m2') (f2 : Fr (fun _ => False) W1 W2) (hQ : ∀ j, Q.all j → W1.heap.size ≤ j) : Two w W2 W.heap.size none Q m' m2' ∧ Mem W2 b r m := by
  have hs := h.fr.size
  have hs1 := f.size
  refine ⟨⟨k.none f2, k2, ?_, ?_, fun j hj => ?_, (h.fr.trans f fun j _ hj => hj.elim).trans f2 fun j _ hj => hj.elim⟩, (h.mem.none f).none f2⟩
  · rintro j (rfl | hj) hr
    · have := hQ _ hr
      have := k.blt
      omega
    · cases hj
  · rintro j (rfl | hj)
    · exact hs
    · cases hj
  · have := hQ j hj
    omega
theorem start {b : Nat} (f : Fr (fun j => w.heap.size ≤ j) w W) (hb : b = W.heap.size) (k : Mem W1 b none m) (f1 : Fr (fun _ => False) W W1) (k2 : RM W2 R m2) (f2 : Fr (fun _ => False) W1 W2) (hR : ∀ j, R.all j → W1.heap.size ≤ j) : Two w W2 b none R m m2 := by
  subst hb
  have hs := f.size
  have hs1 := f1.size
  refine ⟨k.none f2, k2, ?_, ?_, fun j hj => ?_, (f.trans f1 fun j _ hj => hj.elim).trans f2 fun j _ hj => hj.elim⟩
  · rintro j (rfl | hj) hr
    · have := hR _ hr
      have := k.blt
      omega
    · cases hj
  · rintro j (rfl | hj)
    · exact hs
    · cases hj
  · have := hR j hj
    omega
end Two
namespace Few
variable {R : Rf} {m : Mm} {k : Nat}
theorem up (h : Few R m k) : Few R m (k + 1) := ⟨Nat.le_succ_of_le h.acts, fun p => Nat.le_succ_of_le (h.worn p), h.wf⟩
theorem burn (h : Few R m k) (p a : Int) (t : List UInt8) : Few R (m.burnM p a t) (k + 1) := by
  refine ⟨?_, fun q => ?_, h.wf⟩
  · unfold Mm.burnM
    split
    · exact Nat.succ_le_succ h.acts
    · exact Nat.le_succ_of_le h.acts
  · unfold Mm.burnM
    split
    · exact Nat.le_succ_of_le (h.worn q)
    · exact Nat.le_succ_of_le (h.worn q)
theorem erase (h : Few R m k) (p : Int) : Few R (m.eraseM p) (k + 1) := by
  refine ⟨?_, fun q => ?_, h.wf⟩
  · unfold Mm.eraseM
    split
    · exact Nat.succ_le_succ h.acts
    · exact Nat.le_succ_of_le h.acts
  · unfold Mm.eraseM
    have := h.worn q
    split
    · show (if q = p.toNat then m.worn q + 1 else m.worn q) ≤ k + 1
      split <;> omega
    · omega
theorem arm (h : Few R m k) {A : Option Addr} {c : Nat} {l : List (Int × Int)} (hl : ∀ x ∈ l, (ki x.1).wf = true ∧ (ki x.2).wf = true) (C : Nat → Option Int) : Few { R with A := A, c := c, l := l } (m.arm C) (k + 1) := ⟨Nat.le_succ_of_le h.acts, fun p => Nat.le_succ_of_le (h.worn p), hl⟩
end Few
theorem few_again {R : Rf} {m : Mm} {k : Nat} (h : Few R m k) {Q : Rf} (hQ : ∀ x ∈ Q.l, (ki x.1).wf = true ∧ (ki x.2).wf = true) : Few Q m.again (k + 1) := ⟨Nat.zero_le _, fun p => Nat.le_succ_of_le (h.worn p), hQ⟩
end Go.Proofs.Ytafhkhkpknipmaa

/- Rows of noughts, made and put into queues, at numbers, texts and pairs. -/
import Derived.Test.YtgnbaknmibncmaaQueS
import Derived.Test.YtgnbaknmibncmaaQueP
namespace Go.Proofs.Ytgnbaknmibncmaa
open Go.RowKit

/-- the cells of n empty things -/
def reps (sz : Nat) (u : Value) (n : Nat) : List Value := List.replicate (n * sz) u
theorem reps_length (sz : Nat) (u : Value) (n : Nat) : (reps sz u n).length = n * sz := List.length_replicate
theorem reps_add (sz : Nat) (u : Value) (n m : Nat) : reps sz u n ++ reps sz u m = reps sz u (n + m) := by
  unfold reps
  rw [List.replicate_append_replicate, Nat.add_mul]
theorem reps_one {sz : Nat} {u : Value} (h : u.oneCell' = true) (n : Nat) : ∀ v ∈ reps sz u n, v.oneCell' = true := fun v hv => by
  rw [List.eq_of_mem_replicate hv]; exact h
theorem reps_succ1 (u : Value) (n : Nat) : reps 1 u (n + 1) = u :: reps 1 u n := by
  unfold reps
  rw [show (n + 1) * 1 = n * 1 + 1 by omega, List.replicate_succ]
theorem reps_succ2 (u : Value) (n : Nat) : reps 2 u (n + 1) = u :: u :: reps 2 u n := by
  unfold reps
  rw [show (n + 1) * 2 = n * 2 + 1 + 1 by omega, List.replicate_succ, List.replicate_succ]
theorem reps_zero (sz : Nat) (u : Value) : reps sz u 0 = [] := by unfold reps; rw [Nat.zero_mul]; rfl

theorem rd_is {w : World} {b : Nat} {t : TypeId} {xs : List Value} (h : Is w b t xs.toArray) : Rd w (some ⟨b, 0, none⟩) xs := fun _ =>
  ⟨b, 0, rfl, h.lt, fun j u hu => by rw [Nat.zero_add, h.cell]; simpa using hu⟩

theorem made_one (u : Value) (n : Nat) : madeCells #[u] (n * 1) = (reps 1 u n).toArray := by
  apply Array.ext'
  rw [toList_madeCells_one]
  rfl
theorem made_two (u : Value) (n : Nat) : madeCells #[u, u] (n * 2) = (reps 2 u n).toArray := by
  apply Array.ext
  · simp [madeCells, reps]
  · intro i h1 h2
    have : i % 2 = 0 ∨ i % 2 = 1 := by omega
    rcases this with h | h <;> simp [madeCells, reps, h]

theorem mkI (n : Nat) (hn : n ≤ 64) (W : World) : (Instr.makeSlice 28 (.int .i64 (n : Int)) (.int .i64 (n : Int))).run Try.prog W = .ok (.slice (some ⟨W.heap.size, 0, none⟩) n n) (W.alloc (.cells (reps 1 (.int .i64 0) n).toArray 3)) := by
  obtain ⟨i0, hi, hz0, hz1, hz2⟩ := info_parts infoI
  have h := run_make (P := Try.prog) W 28 3 i0 (.int .i64 0) Try.underlying28 hi hz0 .i64 .i64 n n (by omega) (by omega) (by rw [hz2]; omega) (by omega)
  rw [hz1, Int.toNat_natCast, show (Value.int .i64 0).cells = #[Value.int .i64 0] from rfl, made_one] at h
  exact h
theorem mkS (n : Nat) (hn : n ≤ 64) (W : World) : (Instr.makeSlice 44 (.int .i64 (n : Int)) (.int .i64 (n : Int))).run Try.prog W = .ok (.slice (some ⟨W.heap.size, 0, none⟩) n n) (W.alloc (.cells (reps 1 (.string .empty) n).toArray 9)) := by
  obtain ⟨i0, hi, hz0, hz1, hz2⟩ := info_parts infoS
  have h := run_make (P := Try.prog) W 44 9 i0 (.string .empty) Try.underlying44 hi hz0 .i64 .i64 n n (by omega) (by omega) (by rw [hz2]; omega) (by omega)
  rw [hz1, Int.toNat_natCast, show (Value.string .empty).cells = #[Value.string .empty] from rfl, made_one] at h
  exact h
theorem mkP (n : Nat) (hn : n ≤ 64) (W : World) : (Instr.makeSlice 58 (.int .i64 (n : Int)) (.int .i64 (n : Int))).run Try.prog W = .ok (.slice (some ⟨W.heap.size, 0, none⟩) n n) (W.alloc (.cells (reps 2 (.int .i64 0) n).toArray 54)) := by
  obtain ⟨i0, hi, hz0, hz1, hz2⟩ := info_parts infoP
  have h := run_make (P := Try.prog) W 58 54 i0 (.agg #[.int .i64 0, .int .i64 0]) Try.underlying58 hi hz0 .i64 .i64 n n (by omega) (by omega) (by rw [hz2]; omega) (by omega)
  rw [hz1, Int.toNat_natCast, show (Value.agg #[Value.int .i64 0, Value.int .i64 0]).cells = #[Value.int .i64 0, Value.int .i64 0] from rfl, made_two] at h
  exact h

theorem parts {n k p : Nat} (f d : Nat) (hf : f = min p (k - n)) (hd : d = p - f) (hn : n ≤ k) : f + d = p ∧ (d = 0 ∧ n + f ≤ k ∨ 0 < d ∧ k = n + f) := by omega

theorem putzI {w : World} {b k c n p f d g : Nat} {A : Option Addr} {lost : Int} (h : Que 60 3 1 w b k A c n (reps 1 (.int .i64 0) n) lost) (hg : Is w g 3 (reps 1 (.int .i64 0) p).toArray) (hp : p ≤ 64) (hf : f = min p (k - n)) (hd : d = p - f) :
    Calls Try.prog 12 #[.pointer (some ⟨b, 0, none⟩), .slice (some ⟨g, 0, none⟩) p p] w fun e w' => e = .returned (.int .i64 (d : Nat)) ∧
      ∃ A' c', Que 60 3 1 w' b k A' c' (n + f) (reps 1 (.int .i64 0) (n + f)) (wrap64 (lost + (d : Nat))) ∧ Fr (fun j => j = b ∨ blk A = some j) w w' ∧ (blk A' = blk A ∨ ∀ j, blk A' = some j → w.heap.size ≤ j) := by
  obtain ⟨e1, e2⟩ := parts f d hf hd h.fit
  have K := putI (f := f) (d := d) (c2 := p) (ys := reps 1 (.int .i64 0) f) (zs := reps 1 (.int .i64 0) d) h (by rw [reps_add, e1]; exact rd_is hg) (reps_length _ _ _) (reps_one rfl _) (by omega) (by omega) e2
  rw [e1, reps_add] at K
  exact K
theorem putzS {w : World} {b k c n p f d g : Nat} {A : Option Addr} {lost : Int} (h : Que 63 9 1 w b k A c n (reps 1 (.string .empty) n) lost) (hg : Is w g 9 (reps 1 (.string .empty) p).toArray) (hp : p ≤ 64) (hf : f = min p (k - n)) (hd : d = p - f) :
    Calls Try.prog 20 #[.pointer (some ⟨b, 0, none⟩), .slice (some ⟨g, 0, none⟩) p p] w fun e w' => e = .returned (.int .i64 (d : Nat)) ∧
      ∃ A' c', Que 63 9 1 w' b k A' c' (n + f) (reps 1 (.string .empty) (n + f)) (wrap64 (lost + (d : Nat))) ∧ Fr (fun j => j = b ∨ blk A = some j) w w' ∧ (blk A' = blk A ∨ ∀ j, blk A' = some j → w.heap.size ≤ j) := by
  obtain ⟨e1, e2⟩ := parts f d hf hd h.fit
  have K := putS (f := f) (d := d) (c2 := p) (ys := reps 1 (.string .empty) f) (zs := reps 1 (.string .empty) d) h (by rw [reps_add, e1]; exact rd_is hg) (reps_length _ _ _) (reps_one rfl _) (by omega) (by omega) e2
  rw [e1, reps_add] at K
  exact K
theorem putzP {w : World} {b k c n p f d g : Nat} {A : Option Addr} {lost : Int} (h : Que 66 54 2 w b k A c n (reps 2 (.int .i64 0) n) lost) (hg : Is w g 54 (reps 2 (.int .i64 0) p).toArray) (hp : p ≤ 64) (hf : f = min p (k - n)) (hd : d = p - f) :
    Calls Try.prog 27 #[.pointer (some ⟨b, 0, none⟩), .slice (some ⟨g, 0, none⟩) p p] w fun e w' => e = .returned (.int .i64 (d : Nat)) ∧
      ∃ A' c', Que 66 54 2 w' b k A' c' (n + f) (reps 2 (.int .i64 0) (n + f)) (wrap64 (lost + (d : Nat))) ∧ Fr (fun j => j = b ∨ blk A = some j) w w' ∧ (blk A' = blk A ∨ ∀ j, blk A' = some j → w.heap.size ≤ j) := by
  obtain ⟨e1, e2⟩ := parts f d hf hd h.fit
  have K := putP (f := f) (d := d) (c2 := p) (ys := reps 2 (.int .i64 0) f) (zs := reps 2 (.int .i64 0) d) h (by rw [reps_add, e1]; exact rd_is hg) (reps_length _ _ _) (reps_one rfl _) (by omega) (by omega) e2
  rw [e1, reps_add] at K
  exact K

/-- A queue stays where another one, of other things, turns. -/
theorem que_apart {t1 e1 t2 e2 : TypeId} {s1 s2 b1 b2 k1 k2 c1 c2 n1 n2 : Nat} {A1 A2 : Option Addr} {xs1 xs2 : List Value} {l1 l2 : Int} {w w' : World} (h1 : Que t1 e1 s1 w b1 k1 A1 c1 n1 xs1 l1) (h2 : Que t2 e2 s2 w b2 k2 A2 c2 n2 xs2 l2) (f : Fr (fun j => j = b2 ∨ blk A2 = some j) w w')
    (hd : t1 ≠ t2 ∧ e1 ≠ e2 ∧ e1 ≠ t2 ∧ e2 ≠ t1) : Que t1 e1 s1 w' b1 k1 A1 c1 n1 xs1 l1 := by
  refine que_fr h1 f ?_ fun j hj => ?_
  · rintro (h | h)
    · subst h
      have i1 := h1.is
      have i2 := h2.is
      unfold Is at i1 i2
      rw [i1] at i2
      injection i2 with i2
      injection i2 with _ i2
      exact hd.1 i2
    · exact wide_is_ne h2.row h1.is hd.2.2.2 (by rw [Row.own]; exact h)
  · rintro (h | h)
    · subst h
      exact wide_is_ne h1.row h2.is hd.2.2.1 (by rw [Row.own]; exact hj)
    · exact wide_ne h1.row h2.row hd.2.1 j (by rw [Row.own]; exact hj) (by rw [Row.own]; exact h)
end Go.Proofs.Ytgnbaknmibncmaa

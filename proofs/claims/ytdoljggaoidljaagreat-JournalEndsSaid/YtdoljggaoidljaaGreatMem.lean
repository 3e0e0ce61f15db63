/- What a memory is in the heap: its block's cells, the map of its cuts. Acts, Down, Bare, Worn. -/
import Derived.Test.YtdoljggaoidljaaGreatLayc
import Derived.Maps.OwnSet
namespace Go.Proofs.YtdoljggaoidljaaGreat
open Go.RowKit Go.Maps

/-- the cells of a memory's block -/
structure At (cs : Array Value) (m : Mm) : Prop where
  size : cs.size = 98332
  acts : cs[0]? = some (.int .i64 (m.acts : Nat))
  armed : cs[1]? = some (.int .i64 (m.armed : Nat))
  down : cs[3]? = some (.bool m.down)
  pg : ∀ p i, p < 24 → i < 4096 → cs[4 + p * 4096 + i]? = some (B (m.pg p i))
  worn : ∀ p, p < 24 → cs[98308 + p]? = some (.int .i64 (m.worn p : Nat))

theorem keyI : Keyed Tryz.prog 3 := int_keyed Tryz.underlying3
theorem zeroI (w : World) : (zeroValue 3).run Tryz.prog w = .ok (.int .i64 0) w := by kernel_rfl
abbrev ki (i : Int) : Lit := .int .i64 i

/-- the map at r reads as the cuts c: those of acts from 0 on -/
def Cuts (w : World) (r : Option Nat) (c : Nat → Option Int) : Prop := match r with
  | none => ∀ i, c i = none
  | some k => ∃ n, ∃ D : DataW Unit, w.ownsMap Tryz.prog 3 (plainElem Tryz.prog 3) k n D ∧ ∀ i : Nat, i ≤ 4611686018427387904 → match c i with
    | none => Maps.has D (ki i) = false
    | some x => Maps.has D (ki i) = true ∧ D.atKey (ki i) (.lit (ki 0)) = .lit (ki x) ∧ (ki x).wf = true

structure Mem (w : World) (b : Nat) (r : Option Nat) (m : Mm) : Prop where
  ex : ∃ cs, Is w b 62 cs ∧ At cs m ∧ cs[2]? = some (.map r)
  cut : m.down = false → Cuts w r m.cut
  lo : m.armed ≤ m.acts
  hi : m.acts ≤ 4611686018427387904
  ne : r ≠ some b
  lt : ∀ k, r = some k → k < w.heap.size

namespace Mem
variable {w w1 : World} {b : Nat} {r : Option Nat} {m : Mm}
theorem c0 (h : Mem w b r m) : w.cell? ⟨b, 0, none⟩ = some (.int .i64 (m.acts : Nat)) := by
  obtain ⟨cs, h1, h2, _⟩ := h.ex
  exact (h1.cell 0).trans h2.acts
theorem c1 (h : Mem w b r m) : w.cell? ⟨b, 1, none⟩ = some (.int .i64 (m.armed : Nat)) := by
  obtain ⟨cs, h1, h2, _⟩ := h.ex
  exact (h1.cell 1).trans h2.armed
theorem c2 (h : Mem w b r m) : w.cell? ⟨b, 2, none⟩ = some (.map r) := by
  obtain ⟨cs, h1, h2, h3⟩ := h.ex
  exact (h1.cell 2).trans h3
theorem c3 (h : Mem w b r m) : w.cell? ⟨b, 3, none⟩ = some (.bool m.down) := by
  obtain ⟨cs, h1, h2, _⟩ := h.ex
  exact (h1.cell 3).trans h2.down
theorem frz (h : Mem w b r m) (i : Nat) : w.frozen? ⟨b, i, none⟩ = false := by
  obtain ⟨cs, h1, h2, _⟩ := h.ex
  exact h1.frozen i
theorem blt (h : Mem w b r m) : b < w.heap.size := by
  obtain ⟨cs, h1, h2, _⟩ := h.ex
  exact h1.lt
theorem cpg (h : Mem w b r m) {p i : Nat} (hp : p < 24) (hi : i < 4096) : w.cell? ⟨b, 4 + p * 4096 + i, none⟩ = some (B (m.pg p i)) := by
  obtain ⟨cs, h1, h2, _⟩ := h.ex
  exact (h1.cell _).trans (h2.pg p i hp hi)
theorem cworn (h : Mem w b r m) {p : Nat} (hp : p < 24) : w.cell? ⟨b, 98308 + p, none⟩ = some (.int .i64 (m.worn p : Nat)) := by
  obtain ⟨cs, h1, h2, _⟩ := h.ex
  exact (h1.cell _).trans (h2.worn p hp)
theorem rb (h : Mem w b r m) {p a n : Nat} (hp : p < 24) (hn : a + n ≤ 4096) : Rb w (some ⟨b, 4 + p * 4096 + a, none⟩) (fun i => m.pg p (a + i)) n := fun _ =>
  ⟨b, 4 + p * 4096 + a, rfl, fun i hi => by
    have := h.cpg hp (i := a + i) (by omega)
    rw [← Nat.add_assoc] at this
    exact this⟩
theorem fr {S : Nat → Prop} (h : Mem w b r m) (f : Fr S w w1) (hb : ¬ S b) (hr : ∀ k, r = some k → ¬ S k) : Mem w1 b r m := by
  obtain ⟨cs, h1, h2, h3⟩ := h.ex
  refine ⟨⟨cs, h1.fr f hb, h2, h3⟩, fun hd => ?_, h.lo, h.hi, h.ne, fun k hk => Nat.lt_of_lt_of_le (h.lt k hk) f.size⟩
  have hc := h.cut hd
  unfold Cuts at hc ⊢
  rcases r with _ | k
  · exact hc
  · obtain ⟨n, D, ho, hD⟩ := hc
    obtain ⟨es, clock, hk, r1⟩ := ho
    exact ⟨n, D, ⟨es, clock, (f.block k (h.lt k rfl) (hr k rfl)).trans hk, r1⟩, hD⟩
theorem none (h : Mem w b r m) (f : Fr (fun _ => False) w w1) : Mem w1 b r m := h.fr f id fun _ _ => id
end Mem

/-- the footprint of a memory -/
def Foot (b : Nat) (r : Option Nat) : Nat → Prop := fun j => j = b ∨ r = some j

section
variable {w : World} {b : Nat} {r : Option Nat} {m : Mm}
theorem down_any (h : Mem w b r m) : Calls Tryz.prog 15 #[.pointer (some ⟨b, 0, none⟩)] w fun e w' => e = .returned (.bool m.down) ∧ w = w' := by
  have g := h.c3
  clear h
  go_enter Tryz.func15, Tryz.ntmps15
  go_wp2
  go_ret
  exact ⟨rfl, rfl⟩
set_option maxHeartbeats 400000 in
theorem bare_any (h : Mem w b r m) (p : Int) (h1 : -9223372036854775808 ≤ p) (h2 : p ≤ 9223372036854775807) :
    Calls Tryz.prog 53 #[.pointer (some ⟨b, 0, none⟩), .int .i64 p] w fun e w' => e = .returned (.int .i64 (m.bare p : Nat)) ∧ w = w' := by
  by_cases hp : 0 ≤ p ∧ p < 24
  · have HP : Hid (isPageB p = true) := Lib.hid (by unfold isPageB; simpa using hp)
    have HW : Hid (m.bare p = bareN (m.pg p.toNat) 4096) := Lib.hid (by unfold Mm.bare; rw [if_pos hp])
    obtain ⟨q, rfl⟩ : ∃ q : Nat, p = q := ⟨p.toNat, by omega⟩
    have hq : q < 24 := by omega
    have g := h.rb hq (a := 0) (n := 4096) (by omega)
    have gf := h.blt
    clear h hp
    simp only [Nat.zero_add, Nat.add_zero] at g
    have K := fun c => bareFrom_any (c := c) g (Nat.le_refl _)
    clear g
    go_enter Tryz.func53, Tryz.ntmps53
    go_wp2_with (first | (go_at_call 57; refine (isPage_any _ _ h1 h2).mono ?_; rintro e w' ⟨rfl, rfl⟩; rw [HP.out]) | (go_at_call 76; refine (K _).mono ?_; rintro e w' ⟨rfl, rfl⟩))
    go_ret
    exact ⟨ret_int (by rw [HW.out]; rfl), rfl⟩
  · have HP : Hid (isPageB p = false) := Lib.hid (by unfold isPageB; simpa using hp)
    have HW : Hid (m.bare p = 0) := Lib.hid (by unfold Mm.bare; rw [if_neg hp])
    clear hp h
    go_enter Tryz.func53, Tryz.ntmps53
    go_wp2_with (go_at_call 57; refine (isPage_any _ _ h1 h2).mono ?_; rintro e w' ⟨rfl, rfl⟩; rw [HP.out])
    go_ret
    exact ⟨ret_int (by rw [HW.out]; rfl), rfl⟩
end
end Go.Proofs.YtdoljggaoidljaaGreat

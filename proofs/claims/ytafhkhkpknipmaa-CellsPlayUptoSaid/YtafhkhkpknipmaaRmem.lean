/- What the document's memory is in the heap; there, most. -/
import Derived.Test.YtafhkhkpknipmaaFree
import Derived.Test.YtafhkhkpknipmaaArm
import Derived.Deep.LoopGhost
import Derived.Deep.CutRange
namespace Go.Proofs.Ytafhkhkpknipmaa
open Go.RowKit Go.Maps

/-- a row of how often each page was worn -/
def RowW (w : World) (b : Nat) (f : Nat → Nat) : Prop := ∃ cs, Is w b 3 cs ∧ cs.size = 24 ∧ ∀ p, p < 24 → cs[p]? = some (.int .i64 (f p : Nat))
/-- a page's row of bytes -/
def RowP (w : World) (b : Nat) (f : Nat → UInt8) : Prop := ∃ cs, Is w b 5 cs ∧ cs.size = 4096 ∧ ∀ i, i < 4096 → cs[i]? = some (B (f i))
theorem RowW.fr {S : Nat → Prop} {w w1 : World} {b : Nat} {f : Nat → Nat} (h : RowW w b f) (k : Fr S w w1) (hb : ¬ S b) : RowW w1 b f := by
  obtain ⟨cs, h1, h2⟩ := h
  exact ⟨cs, h1.fr k hb, h2⟩
theorem RowP.fr {S : Nat → Prop} {w w1 : World} {b : Nat} {f : Nat → UInt8} (h : RowP w b f) (k : Fr S w w1) (hb : ¬ S b) : RowP w1 b f := by
  obtain ⟨cs, h1, h2⟩ := h
  exact ⟨cs, h1.fr k hb, h2⟩
theorem RowW.lt {w : World} {b : Nat} {f : Nat → Nat} (h : RowW w b f) : b < w.heap.size := by
  obtain ⟨cs, h1, _⟩ := h
  exact h1.lt
theorem RowP.lt {w : World} {b : Nat} {f : Nat → UInt8} (h : RowP w b f) : b < w.heap.size := by
  obtain ⟨cs, h1, _⟩ := h
  exact h1.lt
theorem RowW.cell {w : World} {b : Nat} {f : Nat → Nat} (h : RowW w b f) {p : Nat} (hp : p < 24) : w.cell? ⟨b, p, none⟩ = some (.int .i64 (f p : Nat)) := by
  obtain ⟨cs, h1, h2, h3⟩ := h
  exact (h1.cell p).trans (h3 p hp)
theorem RowW.frz {w : World} {b : Nat} {f : Nat → Nat} (h : RowW w b f) (p : Nat) : w.frozen? ⟨b, p, none⟩ = false := by
  obtain ⟨cs, h1, _⟩ := h
  exact h1.frozen p
theorem RowP.cell {w : World} {b : Nat} {f : Nat → UInt8} (h : RowP w b f) {i : Nat} (hi : i < 4096) : w.cell? ⟨b, i, none⟩ = some (.int .u8 ((f i).toNat : Int)) := by
  obtain ⟨cs, h1, h2, h3⟩ := h
  exact (h1.cell i).trans (h3 i hi)
theorem RowP.frz {w : World} {b : Nat} {f : Nat → UInt8} (h : RowP w b f) (i : Nat) : w.frozen? ⟨b, i, none⟩ = false := by
  obtain ⟨cs, h1, _⟩ := h
  exact h1.frozen i

/-- where the document's memory lies: its block, the rows of wear and of pages, each page's row, the row of cuts -/
structure Rf where
  b : Nat
  wb : Nat
  ob : Nat
  oc : Nat
  g : Nat → Nat
  A : Option Addr
  c : Nat
  l : List (Int × Int)
def Rf.all (R : Rf) : Nat → Prop := fun j => j = R.b ∨ j = R.wb ∨ j = R.ob ∨ (∃ p, p < 24 ∧ j = R.g p) ∨ blk R.A = some j
def Rf.arr (R : Rf) (m : Mm) : Array Value := #[.slice (some ⟨R.ob, 0, none⟩) 24 R.oc, .slice (some ⟨R.wb, 0, none⟩) 24 24, .slice R.A R.l.length R.c, .int .i64 (m.acts - m.armed : Nat), .int .i64 (m.acts : Nat), .bool m.down]

structure RM (w : World) (R : Rf) (m : Mm) : Prop where
  is : Is w R.b 57 (R.arr m)
  outer : ∃ cs, Is w R.ob 53 cs ∧ ∀ p, p < 24 → cs[p]? = some (.slice (some ⟨R.g p, 0, none⟩) 4096 4096)
  page : ∀ p, p < 24 → RowP w (R.g p) (m.pg p)
  wear : RowW w R.wb m.worn
  cuts : Rd w R.A (cutCells R.l)
  cne : ∀ k, blk R.A = some k → k ≠ R.b ∧ k ≠ R.wb ∧ ∀ p, p < 24 → k ≠ R.g p
  inj : ∀ p q, p < 24 → q < 24 → R.g p = R.g q → p = q
  link : m.down = false → ∀ i, m.cut i = cutAt R.l (i : Nat)
  lo : m.armed ≤ m.acts
  hi : m.acts ≤ 4611686018427387904
  len : R.l.length ≤ 140737488355328
  lt : ∀ j, R.all j → j < w.heap.size
namespace RM
variable {w w1 : World} {R : Rf} {m : Mm}
theorem fr {S : Nat → Prop} (h : RM w R m) (f : Fr S w w1) (hS : ∀ j, R.all j → ¬ S j) : RM w1 R m := by
  obtain ⟨cs, ho1, ho2⟩ := h.outer
  exact ⟨h.is.fr f (hS _ (.inl rfl)), ⟨cs, ho1.fr f (hS _ (.inr (.inr (.inl rfl)))), ho2⟩, fun p hp => (h.page p hp).fr f (hS _ (.inr (.inr (.inr (.inl ⟨p, hp, rfl⟩))))), h.wear.fr f (hS _ (.inr (.inl rfl))), h.cuts.fr f fun k hk => hS _ (.inr (.inr (.inr (.inr hk)))), h.cne, h.inj, h.link, h.lo, h.hi, h.len, fun j hj => Nat.lt_of_lt_of_le (h.lt j hj) f.size⟩
theorem none (h : RM w R m) (f : Fr (fun _ => False) w w1) : RM w1 R m := h.fr f fun _ _ => id
theorem c0 (h : RM w R m) : w.cell? ⟨R.b, 0, .none⟩ = some (.slice (some ⟨R.ob, 0, .none⟩) 24 R.oc) := h.is.cell 0
theorem c1 (h : RM w R m) : w.cell? ⟨R.b, 1, .none⟩ = some (.slice (some ⟨R.wb, 0, .none⟩) 24 24) := h.is.cell 1
theorem c2 (h : RM w R m) : w.cell? ⟨R.b, 2, .none⟩ = some (.slice R.A R.l.length R.c) := h.is.cell 2
theorem c3 (h : RM w R m) : w.cell? ⟨R.b, 3, .none⟩ = some (.int .i64 (m.acts - m.armed : Nat)) := h.is.cell 3
theorem c4 (h : RM w R m) : w.cell? ⟨R.b, 4, .none⟩ = some (.int .i64 (m.acts : Nat)) := h.is.cell 4
theorem c5 (h : RM w R m) : w.cell? ⟨R.b, 5, .none⟩ = some (.bool m.down) := h.is.cell 5
theorem frz (h : RM w R m) (i : Nat) : w.frozen? ⟨R.b, i, .none⟩ = false := h.is.frozen i
theorem co (h : RM w R m) {p : Nat} (hp : p < 24) : w.cell? ⟨R.ob, p, .none⟩ = some (.slice (some ⟨R.g p, 0, .none⟩) 4096 4096) := by
  obtain ⟨cs, h1, h2⟩ := h.outer
  exact (h1.cell p).trans (h2 p hp)
end RM
theorem is_ne {w : World} {a b : Nat} {t u : TypeId} {cs ds : Array Value} (h : Is w a t cs) (k : Is w b u ds) (ht : t ≠ u) : a ≠ b := by
  rintro rfl
  unfold Is at h k
  rw [h] at k
  injection k with k
  injection k with _ k
  exact ht k

theorem there_any (p a : Int) (w : World) : Calls Try.prog 34 #[.int .i64 p, .int .i64 a] w fun e w' => e = .returned (.bool (decide ((0 ≤ p ∧ p < 24) ∧ 0 ≤ a ∧ a ≤ 4096))) ∧ w = w' := by
  generalize hd : decide ((0 ≤ p ∧ p < 24) ∧ 0 ≤ a ∧ a ≤ 4096) = d
  have H := Lib.hid hd
  clear hd
  have fin : ∀ d', (d' = true ↔ ((0 ≤ p ∧ p < 24) ∧ 0 ≤ a ∧ a ≤ 4096)) → d' = d := fun d' h => by
    rw [← H.out]
    cases d' <;> simp_all
  have FIN := Lib.hid fin
  clear fin
  by_cases h0 : 0 ≤ p
  · by_cases h1 : p < 24
    · by_cases h2 : 0 ≤ a
      · by_cases h3 : a ≤ 4096
        · have q := FIN.out true ⟨fun _ => ⟨⟨h0, h1⟩, h2, h3⟩, fun _ => rfl⟩
          have Q := Lib.hid q
          have d0 : decide (0 ≤ p) = true := by simpa using h0
          have d1 : decide (p < 24) = true := by simpa using h1
          have d2 : decide (0 ≤ a) = true := by simpa using h2
          have d3 : decide (a ≤ 4096) = true := by simpa using h3
          clear q
          go_enter Try.func34, Try.ntmps34
          go_wp2
          go_ret
          exact ⟨by rw [← Q.out]; rfl, rfl⟩
        · have q := FIN.out false ⟨fun h => (by cases h), fun h => absurd h.2.2 h3⟩
          have Q := Lib.hid q
          have d0 : decide (0 ≤ p) = true := by simpa using h0
          have d1 : decide (p < 24) = true := by simpa using h1
          have d2 : decide (0 ≤ a) = true := by simpa using h2
          have d3 : decide (a ≤ 4096) = false := by simpa using h3
          clear q
          go_enter Try.func34, Try.ntmps34
          go_wp2
          go_ret
          exact ⟨by rw [← Q.out]; rfl, rfl⟩
      · have q := FIN.out false ⟨fun h => (by cases h), fun h => absurd h.2.1 h2⟩
        have Q := Lib.hid q
        have d0 : decide (0 ≤ p) = true := by simpa using h0
        have d1 : decide (p < 24) = true := by simpa using h1
        have d2 : decide (0 ≤ a) = false := by simpa using h2
        clear q
        go_enter Try.func34, Try.ntmps34
        go_wp2
        go_ret
        exact ⟨by rw [← Q.out]; rfl, rfl⟩
    · have q := FIN.out false ⟨fun h => (by cases h), fun h => absurd h.1.2 h1⟩
      have Q := Lib.hid q
      have d0 : decide (0 ≤ p) = true := by simpa using h0
      have d1 : decide (p < 24) = false := by simpa using h1
      clear q
      go_enter Try.func34, Try.ntmps34
      go_wp2
      go_ret
      exact ⟨by rw [← Q.out]; rfl, rfl⟩
  · have q := FIN.out false ⟨fun h => (by cases h), fun h => absurd h.1.1 h0⟩
    have Q := Lib.hid q
    have d0 : decide (0 ≤ p) = false := by simpa using h0
    clear q
    go_enter Try.func34, Try.ntmps34
    go_wp2
    go_ret
    exact ⟨by rw [← Q.out]; rfl, rfl⟩
end Go.Proofs.Ytafhkhkpknipmaa

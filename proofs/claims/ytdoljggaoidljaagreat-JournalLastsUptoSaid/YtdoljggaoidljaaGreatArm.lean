/- The contract of Arm. -/
import Derived.Test.YtdoljggaoidljaaGreatCutm
import Derived.Deep.LoopGhost
namespace Go.Proofs.YtdoljggaoidljaaGreat
open Go.RowKit Go.Maps
set_option maxRecDepth 100000

/-- the cells of a row of cuts -/
def cutCells : List (Int × Int) → List Value
  | [] => []
  | c :: r => .int .i64 c.1 :: .int .i64 c.2 :: cutCells r
theorem cutCells_at : ∀ (l : List (Int × Int)) (k : Nat) (h : k < l.length), (cutCells l)[k * 2]? = some (.int .i64 l[k].1) ∧ (cutCells l)[k * 2 + 1]? = some (.int .i64 l[k].2)
  | c :: r, 0, _ => ⟨rfl, rfl⟩
  | c :: r, k + 1, h => by
    have := cutCells_at r k (by simpa using h)
    rw [show (k + 1) * 2 = k * 2 + 1 + 1 by omega]
    exact this
theorem cutCells_length : ∀ l : List (Int × Int), (cutCells l).length = l.length * 2
  | [] => rfl
  | c :: r => by simp only [cutCells, List.length_cons, cutCells_length r]; omega

theorem at_arm {cs : Array Value} {m : Mm} (h : At cs m) (r : Value) : At ((cs.setIfInBounds 1 (.int .i64 (m.acts : Nat))).setIfInBounds 2 r) { m with armed := m.acts } := by
  refine ⟨by simp [h.size], ?_, ?_, ?_, fun p i hp hi => ?_, fun p hp => ?_⟩
  · simpa [Array.getElem?_setIfInBounds] using h.acts
  · have := h.size
    simp [this]
  · simpa [Array.getElem?_setIfInBounds] using h.down
  · rw [Array.getElem?_setIfInBounds_ne (by omega), Array.getElem?_setIfInBounds_ne (by omega)]
    exact h.pg p i hp hi
  · rw [Array.getElem?_setIfInBounds_ne (by omega), Array.getElem?_setIfInBounds_ne (by omega)]
    exact h.worn p hp

/-- the memory while cuts are laid -/
def ArmS (w wr : World) (b : Nat) (m : Mm) (k : Nat) (C : Int → Option Int) : Prop :=
  (∃ cs, Is wr b 62 cs ∧ At cs { m with armed := m.acts } ∧ cs[2]? = some (.map (some w.heap.size))) ∧ (∃ D : DataW Unit, wr.ownsMap Tryz.prog 3 (plainElem Tryz.prog 3) w.heap.size k D ∧ ReadsC D C) ∧ Fr (fun j => j = b) w wr
theorem armS_start {w : World} {b : Nat} {r : Option Nat} {m : Mm} (h : Mem w b r m) :
    ArmS w (((w.setCell ⟨b, 1, none⟩ (.int .i64 (m.acts : Nat))).setCell ⟨b, 2, none⟩ (.map (some w.heap.size))).alloc (.map #[] 0)) b m 0 (cutAt []) := by
  obtain ⟨cs, h1, h2, h3⟩ := h.ex
  have hsz : ((w.setCell ⟨b, 1, none⟩ (.int .i64 (m.acts : Nat))).setCell ⟨b, 2, none⟩ (.map (some w.heap.size))).heap.size = w.heap.size := by simp
  refine ⟨⟨_, ((h1.set 1 _).set 2 _).alloc _, at_arm h2 _, by simp [h2.size]⟩, ⟨.map [], ?_, readsC_nil⟩, (((Fr.refl (fun j => j = b) w).setCell (p := ⟨b, 1, none⟩) (.inl rfl) _).setCell (p := ⟨b, 2, none⟩) (.inl rfl) _).alloc _⟩
  have := World.ownsMap_made ((w.setCell ⟨b, 1, none⟩ (.int .i64 (m.acts : Nat))).setCell ⟨b, 2, none⟩ (.map (some w.heap.size))) Tryz.prog 3 (plainElem (H := Unit) Tryz.prog 3)
  rw [hsz] at this
  exact this
theorem armS_end {w wr : World} {b : Nat} {r : Option Nat} {m : Mm} {k : Nat} {C : Int → Option Int} (h : Mem w b r m) (s : ArmS w wr b m k C) : Mem wr b (some w.heap.size) (m.arm fun i => C i) ∧ Fr (fun j => j = b) w wr := by
  obtain ⟨⟨cs, h1, h2, h3⟩, ⟨D, ho, hD⟩, f⟩ := s
  have hlt := ho.lt
  exact ⟨⟨⟨cs, h1, ⟨h2.size, h2.acts, h2.armed, h2.down, h2.pg, h2.worn⟩, h3⟩, fun _ => cuts_of ho hD, Nat.le_refl _, h.hi, fun e => (by injection e with e; have := h.blt; omega), fun j hj => by injection hj with hj; omega⟩, f⟩
theorem armS_cells {w wr : World} {b : Nat} {m : Mm} {k : Nat} {C : Int → Option Int} (s : ArmS w wr b m k C) : wr.cell? ⟨b, 2, none⟩ = some (.map (some w.heap.size)) ∧ b < wr.heap.size := by
  obtain ⟨⟨cs, h1, h2, h3⟩, _⟩ := s
  exact ⟨(h1.cell 2).trans h3, h1.lt⟩
theorem armS_fr {w wr w1 : World} {b : Nat} {m : Mm} {k : Nat} {C C' : Int → Option Int} (s : ArmS w wr b m k C) (f : Fr (fun _ => False) wr w1) (hC : ∀ i, C' i = C i) : ArmS w w1 b m (k + 1) C' := by
  obtain ⟨⟨cs, h1, h2, h3⟩, ⟨D, ho, hD⟩, f0⟩ := s
  obtain ⟨es, clock, hk, r1, r2, r3⟩ := ho
  exact ⟨⟨cs, h1.fr f id, h2, h3⟩, ⟨D, ⟨es, clock, (f.block _ (lt_of_block hk) id).trans hk, r1, by omega, r3⟩, readsC_same hD hC⟩, f0.trans f fun _ _ k => k.elim⟩
theorem armS_put {w wr w1 : World} {b : Nat} {r : Option Nat} {m : Mm} {k : Nat} {C C' : Int → Option Int} {a p : Int} (h : Mem w b r m) (s : ArmS w wr b m k C) (f : Fr (fun _ => False) wr w1) (hk : k < maxLen) (ha : (ki a).wf = true) (hp : (ki p).wf = true) (h1 : C' a = some p) (h2 : ∀ i, i ≠ a → C' i = C i) :
    ∃ w2, (Instr.mapUpdate 55 (.map (some w.heap.size)) (.int .i64 a) (.int .i64 p)).run Tryz.prog w1 = .ok () w2 ∧ ArmS w w2 b m (k + 1) C' := by
  obtain ⟨⟨cs, i1, i2, i3⟩, ⟨D, ho, hD⟩, f0⟩ := armS_fr (C' := C) s f fun _ => rfl
  obtain ⟨_, ⟨D0, ho0, hD0⟩, _⟩ := s
  have ho1 : w1.ownsMap Tryz.prog 3 (plainElem (H := Unit) Tryz.prog 3) w.heap.size k D0 := by
    obtain ⟨es, clock, hk, r1⟩ := ho0
    exact ⟨es, clock, (f.block _ (lt_of_block hk) id).trans hk, r1⟩
  obtain ⟨w2, hrun, ho2, ht⟩ := ho1.store keyI Tryz.underlying55 hk (keyOf_int_mk Tryz.underlying3 ha) (plainElem_int Tryz.underlying3 hp)
  have f2 := (Fr.refl (fun j => j = w.heap.size) w1).grown ht.grown fun j hj => by injection hj with hj; exact .inl hj.symm
  have hb := h.blt
  exact ⟨w2, hrun, ⟨cs, i1.fr f2 (by omega), i2, i3⟩, ⟨_, ho2, readsC_put hD0 ho1.isMap a p hp h1 h2⟩, f0.grown ht.grown fun j hj => by injection hj with hj; exact .inr (by omega)⟩
theorem armS_look {w wr w1 : World} {b : Nat} {m : Mm} {k : Nat} {C : Int → Option Int} {a : Int} (s : ArmS w wr b m k C) (ha : (ki a).wf = true) (f : Fr (fun _ => False) wr w1) :
    (Instr.lookup 55 (.map (some w.heap.size)) (.int .i64 a) true).run Tryz.prog w1 = .ok (.tuple #[.int .i64 ((C a).getD 0), .bool (C a).isSome]) w1 := by
  obtain ⟨_, ⟨D0, ho0, hD0⟩, _⟩ := s
  have ho1 : w1.ownsMap Tryz.prog 3 (plainElem (H := Unit) Tryz.prog 3) w.heap.size k D0 := by
    obtain ⟨es, clock, hk, r1⟩ := ho0
    exact ⟨es, clock, (f.block _ (lt_of_block hk) id).trans hk, r1⟩
  have q := hD0 a ha
  cases hc : C a with
  | none => rw [hc] at q; rw [look_run ho1 ha q.2, q.1]; rfl
  | some x => rw [hc] at q; rw [look_run ho1 ha q.2.1, q.1]; rfl

set_option maxHeartbeats 4000000 in
theorem arm_any {w : World} {b : Nat} {r : Option Nat} {m : Mm} (h : Mem w b r m) {A : Option Addr} {c : Nat} {l : List (Int × Int)} (hl : Rd w A (cutCells l)) (hA : 0 < l.length → blk A ≠ some b) (hlen : l.length ≤ 140737488355328) (hwf : ∀ x ∈ l, (ki x.1).wf = true ∧ (ki x.2).wf = true) :
    Calls Tryz.prog 25 #[.pointer (some ⟨b, 0, none⟩), .slice A l.length c] w fun e w' => e = .returned (.tuple #[]) ∧ Mem w' b (some w.heap.size) (m.arm fun i => cutAt l i) ∧ Fr (fun j => j = b) w w' := by
  have g0 := h.c0
  have g1 := h.c1
  have g2 := h.c2
  have gf := h.frz
  have hb := h.blt
  have hmm := @run_makeMap Tryz.prog
  have HM := Lib.hid h
  have S0 := Lib.hid (armS_start h)
  clear h
  go_enter Tryz.func25, Tryz.ntmps25
  go_wp2
  go_loopw [5, 6, 7, 21] (fun _ _ _ i wr => ∃ k : Nat, k ≤ l.length ∧ i = .int .i64 k ∧ ArmS w wr b m k (cutAt (l.take k))) (fun _ _ _ i _ => l.length - (intOf i).toNat)
  case atStart => exact ⟨0, Nat.zero_le _, rfl, S0.out⟩
  case round =>
    obtain ⟨k, hk, rfl, hS⟩ := hrel
    clear g0 g1 g2 gf S0 hmm
    by_cases hlt : k < l.length
    · obtain ⟨ab, o, rfl, hab, hc⟩ := hl (by rw [cutCells_length]; omega)
      obtain ⟨e1, e2⟩ := cutCells_at l k hlt
      have f0 := hS.2.2
      have hne : ab ≠ b := fun e => hA (by omega) (by rw [e]; rfl)
      have q1 : wr.cell? ⟨ab, o + k * 2, none⟩ = some (.int .i64 l[k].1) := (f0.cell (p := ⟨ab, o + k * 2, none⟩) hab hne).trans (hc _ _ e1)
      have q2 : wr.cell? ⟨ab, o + k * 2 + 1, none⟩ = some (.int .i64 l[k].2) := (f0.cell (p := ⟨ab, o + k * 2 + 1, none⟩) hab hne).trans (by have := hc _ _ e2; rw [← Nat.add_assoc] at this; exact this)
      have hw1 := hwf l[k] (List.getElem_mem hlt)
      have HT := Lib.hid (cutAt_take l k hlt)
      generalize l[k] = x at q1 q2 hw1 HT
      obtain ⟨a, p⟩ := x
      obtain ⟨c2, hbr⟩ := armS_cells hS
      simp only at q1 q2 hw1
      have W1 := Lib.hid hw1.1
      have W2 := Lib.hid hw1.2
      have HS := Lib.hid hS
      have hablt : ab < wr.heap.size := Nat.lt_of_lt_of_le hab f0.size
      clear hc e1 e2 f0 hwf hS hw1 hl
      have hlk := fun n => armS_look HS.out W1.out (((Fr.refl (fun _ => False) wr).alloc (.cells #[.int .i64 a, .int .i64 p] 29)).drewN n)
      generalize hC : cutAt (l.take k) a = Ca at hlk
      have HC := Lib.hid hC
      clear hC
      have FN := fun n => (((Fr.refl (fun _ => False) wr).alloc (.cells #[.int .i64 a, .int .i64 p] 29)).drewN n)
      have HN : Hid (∀ i, i ≠ a → cutAt (l.take (k + 1)) i = cutAt (l.take k) i) := Lib.hid fun i hi => by rw [HT.out]; exact if_neg (fun e => hi e.symm)
      rcases Ca with _ | y
      · simp only [Option.getD_none, Option.isSome_none] at hlk
        have HY : Hid (cutAt (l.take (k + 1)) a = some p) := Lib.hid (by rw [HT.out, HC.out]; exact if_pos rfl)
        go_wp2_with fail
        go_quiet (fail)
        go_wp2_with fail
        obtain ⟨w2, hrun, S2⟩ := armS_put HM.out HS.out (FN (nq + 1)) (by unfold maxLen; omega) W1.out W2.out HY.out HN.out
        have HS2 := Lib.hid S2
        clear S2 hlk
        go_region
        go_wp2
        go_roundw
        case rel => exact ⟨k + 1, by omega, by go_num, HS2.out⟩
        case measure => simp [intOf]; omega
      · simp only [Option.getD_some, Option.isSome_some] at hlk
        by_cases hlt2 : p < y
        · have HY : Hid (cutAt (l.take (k + 1)) a = some p) := Lib.hid (by rw [HT.out, HC.out]; exact (if_pos rfl).trans (congrArg some (if_pos hlt2)))
          have d1 : decide (p < y) = true := by simpa using hlt2
          clear hlt2
          go_wp2_with fail
          go_quiet (fail)
          go_wp2_with fail
          obtain ⟨w2, hrun, S2⟩ := armS_put HM.out HS.out (FN (nq + 1)) (by unfold maxLen; omega) W1.out W2.out HY.out HN.out
          have HS2 := Lib.hid S2
          clear S2 hlk
          go_region
          go_wp2
          go_roundw
          case rel => exact ⟨k + 1, by omega, by go_num, HS2.out⟩
          case measure => simp [intOf]; omega
        · have HY : Hid (∀ i, cutAt (l.take (k + 1)) i = cutAt (l.take k) i) := Lib.hid fun i => by
            by_cases e : i = a
            · subst e
              rw [HT.out, HC.out]
              exact (if_pos rfl).trans (congrArg some (if_neg hlt2))
            · exact HN.out i e
          have d1 : decide (p < y) = false := by simpa using hlt2
          clear hlt2
          go_wp2_with fail
          go_quiet (fail)
          go_wp2_with fail
          go_roundw
          case rel => exact ⟨k + 1, by omega, by go_num, armS_fr HS.out (FN _) HY.out⟩
          case measure => simp [intOf]; omega
    · have hkn : k = l.length := by omega
      subst hkn
      have HS := Lib.hid hS
      clear hS
      go_wp2
      go_end0
      have := armS_end HM.out HS.out
      rw [List.take_length] at this
      exact ⟨rfl, this⟩
end Go.Proofs.YtdoljggaoidljaaGreat

/- The document's image: New. -/
import Derived.Test.YtfmhfngilimhjaaJv
namespace Go.Proofs.Ytfmhfngilimhjaa.Im
open Go.RowKit Li

theorem Try.infoPr : (Try.prog.info? 99).map (fun i => (i.zero, i.size, i.bytes)) = some (some (.pointer none), 1, 8) := by kernel_rfl
theorem Try.infoSt : (Try.prog.info? 65).map (fun i => (i.zero, i.size, i.bytes)) = some (some (.agg #[.slice none 0 0, .slice none 0 0, .slice none 0 0, .slice none 0 0]), 4, 96) := by kernel_rfl
theorem rnewx (peer age : Int) (w : World) (base : Nat) :
    Calls Try.prog 41 #[.int .i64 peer, .int .i64 age] w fun e w' => e = .returned (.pointer (some ⟨w.heap.size, 0, none⟩)) ∧ Mx w' base w.heap.size 0 (.slice none 0 0) (R.new peer age) ∧ Fr (fun _ => False) w w' ∧ w.heap.size < w'.heap.size := by
  have i1 : Is (w.alloc (.cells #[.int .i64 peer, .int .i64 age, .int .i64 (-1), .slice none 0 0] 106)) w.heap.size 106 #[.int .i64 peer, .int .i64 age, .int .i64 (-1), .slice none 0 0] := Is.new w _ _
  have f1 := (Fr.refl (fun _ => False) w).alloc (.cells #[.int .i64 peer, .int .i64 age, .int .i64 (-1), .slice none 0 0] 106)
  have m1 : Mx (w.alloc (.cells #[.int .i64 peer, .int .i64 age, .int .i64 (-1), .slice none 0 0] 106)) base w.heap.size 0 (.slice none 0 0) (R.new peer age) := ⟨[], rfl, Nat.le_refl _, i1, World.ownsRow_nil _ _ _ _⟩
  have HM := Lib.hid m1
  have HF := Lib.hid f1
  clear m1 f1 i1
  go_enter Try.func41, Try.ntmps41
  go_wp2
  go_ret
  exact ⟨rfl, HM.out, HF.out, by simp⟩

/-- the cells of so many statuses that say nothing -/
def nils (n : Nat) : List Value := List.replicate (n * 4) (.slice none 0 0)
theorem nils_length (n : Nat) : (nils n).length = n * 4 := by simp [nils]
theorem nils_snoc (n : Nat) : nils (n + 1) = nils n ++ [.slice none 0 0, .slice none 0 0, .slice none 0 0, .slice none 0 0] := by
  unfold nils
  rw [Nat.add_mul, Nat.one_mul, ← List.replicate_append_replicate]
  rfl
/-- the document's image, under way: so many receivers, statuses, stamps -/
structure Bl (w : World) (z b : Nat) (C : Te.Cf) (vR vS vZ : Value) (rbs : List Nat) (nS nZ : Nat) : Prop where
  is : Is w b 98 #[.slice C.A1 C.l.length C.c1, .slice C.A2 C.n2 C.c2, .slice C.A3 C.sg.length C.c3, .slice C.A4 C.cr.length C.c4, .slice C.A5 C.n5 C.c5, .int .i64 C.t.age, .int .i64 C.t.brake, .int .i64 C.t.hold, .int .i64 C.t.budget, vR, vS, vZ]
  hz : z ≤ b
  oR : w.ownsRow z 99 1 vR rbs.length (rbs.map fun r => .pointer (some ⟨r, 0, none⟩))
  oS : w.ownsRow z 65 4 vS nS (nils nS)
  oZ : w.ownsRow z 3 1 vZ nZ (List.replicate nZ (.int .i64 (-1)))
  mx : ∀ j (h : j < rbs.length), z ≤ rbs[j] ∧ Mx w z rbs[j] 0 (.slice none 0 0) (R.new (j : Int) C.t.age)
  nd : rbs.Nodup
section
variable {w w1 : World} {z b nS nZ : Nat} {C : Te.Cf} {vR vS vZ v' : Value} {rbs : List Nat}
theorem Bl.fr0 (h : Bl w z b C vR vS vZ rbs nS nZ) (f : Fr (fun _ => False) w w1) : Bl w1 z b C vR vS vZ rbs nS nZ :=
  { h with is := h.is.fr f id, oR := wide_fr h.oR f fun _ _ => id, oS := wide_fr h.oS f fun _ _ => id, oZ := wide_fr h.oZ f fun _ _ => id, mx := fun j hj => ⟨(h.mx j hj).1, (h.mx j hj).2.fr f id fun _ _ => id⟩ }
/-- a receiver's block is no row's, and no image's -/
theorem Mx.ne {n : Nat} {rb : Nat} {v : Value} {r : R} (h : Mx w z rb n v r) {c : Nat} {t : TypeId} {cs : Array Value} (hc : Is w c t cs) (ht : 106 ≠ t) : rb ≠ c := by
  obtain ⟨ns, _, _, h3, _⟩ := h
  exact Te.isne h3 hc ht
theorem Mx.nrow {n m s : Nat} {rb : Nat} {v u : Value} {r : R} {e : TypeId} {xs : List Value} (h : Mx w z rb n v r) (hc : w.ownsRow z e s u m xs) (ht : e ≠ 106) : ∀ q, u.ownBlock = some q → q ≠ rb := fun q hq e => by
  obtain ⟨ns, _, _, h3, _⟩ := h
  exact wide_is_ne hc h3 ht (e ▸ hq)
/-- a receiver that was made, and put into the row -/
theorem Bl.putR {w2 : World} {r n : Nat} (h : Bl w z b C vR vS vZ rbs nS nZ) (hn : n = rbs.length) (hr : z ≤ r) (hm : Mx w z r 0 (.slice none 0 0) (R.new (n : Int) C.t.age)) (hnew : ∀ x ∈ rbs, x ≠ r) (ho : w2.ownsRow z 99 1 v' (n + 1) ((rbs.map fun r => .pointer (some ⟨r, 0, none⟩)) ++ [.pointer (some ⟨r, 0, none⟩)])) (hg : w.grownBy w2 vR.ownBlock) :
    Bl (w2.setCell ⟨b, 9, none⟩ v') z b C v' vS vZ (rbs ++ [r]) nS nZ ∧ Fr (fun q => q = b ∨ vR.ownBlock = some q) w (w2.setCell ⟨b, 9, none⟩ v') := by
  subst hn
  have fg : Fr (fun q => vR.ownBlock = some q) w w2 := (Fr.refl _ w).grown hg fun _ hk => .inl hk
  have hb : ∀ q, vR.ownBlock = some q → q ≠ b := fun q hq e => wide_is_ne h.oR h.is (by decide) (e ▸ hq)
  have i2 := h.is.fr fg fun hq => hb _ hq rfl
  have fs := (Fr.refl (fun q => q = b) w2).setCell (p := ⟨b, 9, none⟩) (.inl rfl) v'
  have F := (fg.mono (S' := fun q => q = b ∨ vR.ownBlock = some q) fun _ _ h => .inr h).trans fs fun _ _ h => .inl h
  have i3 := i2.set 9 v'
  refine ⟨⟨by simpa using i3, h.hz, ?_, ?_, ?_, fun j hj => ?_, ?_⟩, F⟩
  · rw [List.length_append, List.map_append]
    exact wide_fr ho fs fun q hq e => wide_is_ne ho i2 (by decide) (e ▸ hq)
  · exact wide_fr h.oS F fun q hq e => by
      rcases e with e | e
      · exact wide_is_ne h.oS h.is (by decide) (e ▸ hq)
      · exact wide_ne h.oR h.oS (by decide) q e hq
  · exact wide_fr h.oZ F fun q hq e => by
      rcases e with e | e
      · exact wide_is_ne h.oZ h.is (by decide) (e ▸ hq)
      · exact wide_ne h.oR h.oZ (by decide) q e hq
  · have fin : ∀ {x : Nat} {k : Int}, Mx w z x 0 (.slice none 0 0) (R.new k C.t.age) → Mx (w2.setCell ⟨b, 9, none⟩ v') z x 0 (.slice none 0 0) (R.new k C.t.age) := fun hx => hx.fr F (fun e => by
      rcases e with e | e
      · exact Mx.ne hx h.is (by decide) e
      · exact Mx.nrow hx h.oR (by decide) _ e rfl) fun _ hq => by cases hq
    by_cases hj2 : j < rbs.length
    · rw [List.getElem_append_left hj2]
      exact ⟨(h.mx j hj2).1, fin (h.mx j hj2).2⟩
    · have hje : j = rbs.length := by rw [List.length_append] at hj; simp at hj; omega
      subst hje
      rw [List.getElem_append_right (Nat.le_refl _)]
      simp only [Nat.sub_self, List.getElem_cons_zero]
      exact ⟨hr, fin hm⟩
  · rw [List.nodup_append]
    refine ⟨h.nd, by simp, fun x hx y hy => ?_⟩
    rw [List.mem_singleton] at hy
    exact hy ▸ hnew x hx
theorem Bl.putS {w2 : World} (h : Bl w z b C vR vS vZ rbs nS nZ) (ho : w2.ownsRow z 65 4 v' (nS + 1) (nils nS ++ [.slice none 0 0, .slice none 0 0, .slice none 0 0, .slice none 0 0])) (hg : w.grownBy w2 vS.ownBlock) :
    Bl (w2.setCell ⟨b, 10, none⟩ v') z b C vR v' vZ rbs (nS + 1) nZ ∧ Fr (fun q => q = b ∨ vS.ownBlock = some q) w (w2.setCell ⟨b, 10, none⟩ v') := by
  have fg : Fr (fun q => vS.ownBlock = some q) w w2 := (Fr.refl _ w).grown hg fun _ hk => .inl hk
  have hb : ∀ q, vS.ownBlock = some q → q ≠ b := fun q hq e => wide_is_ne h.oS h.is (by decide) (e ▸ hq)
  have i2 := h.is.fr fg fun hq => hb _ hq rfl
  have fs := (Fr.refl (fun q => q = b) w2).setCell (p := ⟨b, 10, none⟩) (.inl rfl) v'
  have F := (fg.mono (S' := fun q => q = b ∨ vS.ownBlock = some q) fun _ _ h => .inr h).trans fs fun _ _ h => .inl h
  have i3 := i2.set 10 v'
  refine ⟨⟨by simpa using i3, h.hz, ?_, ?_, ?_, fun j hj => ⟨(h.mx j hj).1, ?_⟩, h.nd⟩, F⟩
  · exact wide_fr h.oR F fun q hq e => by
      rcases e with e | e
      · exact wide_is_ne h.oR h.is (by decide) (e ▸ hq)
      · exact wide_ne h.oS h.oR (by decide) q e hq
  · rw [nils_snoc]
    exact wide_fr ho fs fun q hq e => wide_is_ne ho i2 (by decide) (e ▸ hq)
  · exact wide_fr h.oZ F fun q hq e => by
      rcases e with e | e
      · exact wide_is_ne h.oZ h.is (by decide) (e ▸ hq)
      · exact wide_ne h.oS h.oZ (by decide) q e hq
  · exact (h.mx j hj).2.fr F (fun e => by
      rcases e with e | e
      · exact Mx.ne (h.mx j hj).2 h.is (by decide) e
      · exact Mx.nrow (h.mx j hj).2 h.oS (by decide) _ e rfl) fun _ hq => by cases hq
theorem Bl.putZ {w2 : World} (h : Bl w z b C vR vS vZ rbs nS nZ) (ho : w2.ownsRow z 3 1 v' (nZ + 1) (List.replicate nZ (.int .i64 (-1)) ++ [.int .i64 (-1)])) (hg : w.grownBy w2 vZ.ownBlock) :
    Bl (w2.setCell ⟨b, 11, none⟩ v') z b C vR vS v' rbs nS (nZ + 1) ∧ Fr (fun q => q = b ∨ vZ.ownBlock = some q) w (w2.setCell ⟨b, 11, none⟩ v') := by
  have fg : Fr (fun q => vZ.ownBlock = some q) w w2 := (Fr.refl _ w).grown hg fun _ hk => .inl hk
  have hb : ∀ q, vZ.ownBlock = some q → q ≠ b := fun q hq e => wide_is_ne h.oZ h.is (by decide) (e ▸ hq)
  have i2 := h.is.fr fg fun hq => hb _ hq rfl
  have fs := (Fr.refl (fun q => q = b) w2).setCell (p := ⟨b, 11, none⟩) (.inl rfl) v'
  have F := (fg.mono (S' := fun q => q = b ∨ vZ.ownBlock = some q) fun _ _ h => .inr h).trans fs fun _ _ h => .inl h
  have i3 := i2.set 11 v'
  refine ⟨⟨by simpa using i3, h.hz, ?_, ?_, ?_, fun j hj => ⟨(h.mx j hj).1, ?_⟩, h.nd⟩, F⟩
  · exact wide_fr h.oR F fun q hq e => by
      rcases e with e | e
      · exact wide_is_ne h.oR h.is (by decide) (e ▸ hq)
      · exact wide_ne h.oZ h.oR (by decide) q e hq
  · exact wide_fr h.oS F fun q hq e => by
      rcases e with e | e
      · exact wide_is_ne h.oS h.is (by decide) (e ▸ hq)
      · exact wide_ne h.oZ h.oS (by decide) q e hq
  · rw [← List.replicate_append_replicate]
    exact wide_fr ho fs fun q hq e => wide_is_ne ho i2 (by decide) (e ▸ hq)
  · exact (h.mx j hj).2.fr F (fun e => by
      rcases e with e | e
      · exact Mx.ne (h.mx j hj).2 h.is (by decide) e
      · exact Mx.nrow (h.mx j hj).2 h.oZ (by decide) _ e rfl) fun _ hq => by cases hq
/-- what was put lies in the call's own blocks -/
theorem Bl.lo (h : Bl w z b C vR vS vZ rbs nS nZ) : (∀ q, (q = b ∨ vR.ownBlock = some q) → z ≤ q) ∧ (∀ q, (q = b ∨ vS.ownBlock = some q) → z ≤ q) ∧ ∀ q, (q = b ∨ vZ.ownBlock = some q) → z ≤ q := by
  refine ⟨fun q hq => ?_, fun q hq => ?_, fun q hq => ?_⟩
  · rcases hq with rfl | hq
    · exact h.hz
    · exact (World.ownsRow.lt h.oR q hq).1
  · rcases hq with rfl | hq
    · exact h.hz
    · exact (World.ownsRow.lt h.oS q hq).1
  · rcases hq with rfl | hq
    · exact h.hz
    · exact (World.ownsRow.lt h.oZ q hq).1
end
end Go.Proofs.Ytfmhfngilimhjaa.Im

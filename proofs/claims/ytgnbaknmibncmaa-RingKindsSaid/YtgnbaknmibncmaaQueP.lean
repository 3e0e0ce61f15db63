/- The contracts of a queue's calls at pairs: made of those at numbers by gen.py. -/
import Derived.Test.YtgnbaknmibncmaaQue
namespace Go.Proofs.Ytgnbaknmibncmaa
open Go.RowKit

set_option maxHeartbeats 800000 in
theorem newP (a : Int) (w : World) (h1 : -9223372036854775808 ≤ a) (h2 : a ≤ 9223372036854775807) : Calls Try.prog 25 #[.int .i64 a] w fun e w' => e = .returned (.pointer (some ⟨w.heap.size, 0, none⟩)) ∧ w' = w.alloc (.cells #[.int .i64 (roomN a : Nat), .slice none 0 0, .int .i64 0] 66) := by
  go_enter Try.func25, Try.ntmps25
  go_wp2
  all_goals
    go_ret
    refine ⟨rfl, ?_⟩
    first
    | (rw [show ((roomN a : Nat) : Int) = 1 from by unfold roomN; omega])
    | (rw [show ((roomN a : Nat) : Int) = 64 from by unfold roomN; omega])
    | (rw [show ((roomN a : Nat) : Int) = a from by unfold roomN; omega])

theorem makeP (a : Int) (w : World) (h1 : -9223372036854775808 ≤ a) (h2 : a ≤ 9223372036854775807) : Calls Try.prog 25 #[.int .i64 a] w fun e w' => e = .returned (.pointer (some ⟨w.heap.size, 0, none⟩)) ∧ Que 66 54 2 w' w.heap.size (roomN a) none 0 0 [] 0 ∧ Fr (fun _ => False) w w' ∧ w.heap.size < w'.heap.size :=
  (newP a w h1 h2).mono fun _ _ ⟨he, hw⟩ => by
    subst hw
    exact ⟨he, que_new w a, (Fr.refl _ w).alloc _, by simp⟩

theorem lenP {w : World} {b k c n : Nat} {A : Option Addr} {xs : List Value} {lost : Int} (h : Que 66 54 2 w b k A c n xs lost) : Calls Try.prog 28 #[.pointer (some ⟨b, 0, none⟩)] w fun e w' => e = .returned (.int .i64 (n : Nat)) ∧ w = w' := by
  have g0 := h.is.cell 1
  clear h
  go_enter Try.func28, Try.ntmps28
  go_wp2
  go_ret
  exact ⟨rfl, rfl⟩
theorem lostP {w : World} {b k c n : Nat} {A : Option Addr} {xs : List Value} {lost : Int} (h : Que 66 54 2 w b k A c n xs lost) : Calls Try.prog 29 #[.pointer (some ⟨b, 0, none⟩)] w fun e w' => e = .returned (.int .i64 lost) ∧ w = w' := by
  have g0 := h.is.cell 2
  clear h
  go_enter Try.func29, Try.ntmps29
  go_wp2
  go_ret
  exact ⟨rfl, rfl⟩

set_option maxHeartbeats 4000000 in
/-- Put, with f of the f + d things put, where all have room, or just f have. -/
theorem putP {w : World} {b k c n f d c2 : Nat} {A A2 : Option Addr} {xs ys zs : List Value} {lost : Int} (h : Que 66 54 2 w b k A c n xs lost) (hy : Rd w A2 (ys ++ zs)) (hl : ys.length = f * 2) (h1 : ∀ u ∈ ys, u.oneCell' = true)
    (hc2 : f + d ≤ c2) (hc2' : c2 ≤ 9223372036854775807) (hfd : d = 0 ∧ n + f ≤ k ∨ 0 < d ∧ k = n + f) :
    Calls Try.prog 27 #[.pointer (some ⟨b, 0, none⟩), .slice A2 (f + d) c2] w fun e w' => e = .returned (.int .i64 (d : Nat)) ∧
      ∃ A' c', Que 66 54 2 w' b k A' c' (n + f) (xs ++ ys) (wrap64 (lost + (d : Nat))) ∧ Fr (fun j => j = b ∨ blk A = some j) w w' ∧ (blk A' = blk A ∨ ∀ j, blk A' = some j → w.heap.size ≤ j) := by
  have g0 := h.is.cell 0
  have g1 := h.is.cell 1
  have g2 := h.is.cell 2
  have gf := h.is.frozen
  have hn := h.fit
  have hk := h.hi
  have hlo := h.lo
  have hone := h.one
  have hy1 := hy.pre
  have hrow := h.row
  have his := h.is
  obtain ⟨i0, hi0, hz0, hz1, hz2⟩ := info_parts infoP
  clear h hy
  rcases hfd with ⟨rfl, hfd⟩ | ⟨hd0, hfd⟩
  · rw [Nat.add_zero] at hc2 ⊢
    go_enter Try.func27, Try.ntmps27
    go_wp2_with fail
    go_quiet (fail)
    go_wp2_with fail
    go_region_law (refine step_append_wide _ rfl (.tmp 24) (.tmp 27) 58 rfl 0 54 i0 _ 2 16 Try.underlying58 hi0 hz0 hz1 hz2 rfl (by decide) (.slice A n c) n xs (by simp [Act.eval]) hrow A2 c2 f ys hl (by simp [Act.eval]) hy1 h1 (by unfold maxLen; omega) (by omega) (Nat.zero_le _) ?_; intro v' w1 hown hg hat; obtain ⟨i1, fr1, A', c', rfl, own1, at1⟩ := que_put (w := w) (w0 := (w.drewN nq).drew) (by decide) rfl (((Fr.refl (fun _ => False) w).drewN nq).drew) his hrow hown hg hat; have q1 := i1.cell 1; have q2 := i1.cell 2; have q3 := i1.frozen; clear hown hg hat)
    go_wp2
    go_ret
    refine ⟨rfl, ?_⟩
    rw [show lost + ((0 : Nat) : Int) = lost by simp]
    exact que_end (by decide) i1 fr1 own1 at1 hlo hk hfd fun u hu => by
      rcases List.mem_append.1 hu with hu | hu
      · exact hone u hu
      · exact h1 u hu
  · have e0 : (k : Int) - (n : Int) = (f : Int) := by omega
    have hfd1 : k ≤ n + f := by omega
    have hfd2 : n + f ≤ k := by omega
    have hfc : (f : Int) ≤ (c2 : Int) := by omega
    clear hfd
    go_enter Try.func27, Try.ntmps27
    go_wp2_with fail
    go_quiet (fail)
    go_wp2_with fail
    go_region_law (refine step_append_wide _ rfl (.tmp 24) (.tmp 27) 58 rfl 0 54 i0 _ 2 16 Try.underlying58 hi0 hz0 hz1 hz2 rfl (by decide) (.slice A n c) n xs (by simp [Act.eval]) hrow A2 c2 f ys hl (by simp [Act.eval]) hy1 h1 (by unfold maxLen; omega) (by omega) (Nat.zero_le _) ?_; intro v' w1 hown hg hat; obtain ⟨i1, fr1, A', c', rfl, own1, at1⟩ := que_put (w := w) (w0 := (w.drewN nq).drew) (by decide) rfl (((Fr.refl (fun _ => False) w).drewN nq).drew) his hrow hown hg hat; have q1 := i1.cell 1; have q2 := i1.cell 2; have q3 := i1.frozen; clear hown hg hat)
    go_wp2
    go_ret
    rw [show ((f : Int) + (d : Int) - (f : Int)) = (d : Int) by omega]
    refine ⟨rfl, ?_⟩
    exact que_end (by decide) i1 fr1 own1 at1 hlo hk hfd2 fun u hu => by
      rcases List.mem_append.1 hu with hu | hu
      · exact hone u hu
      · exact h1 u hu


set_option maxHeartbeats 4000000 in
/-- Take of a queue that has something. -/
theorem takeP {w : World} {b k c n : Nat} {A : Option Addr} {x y : Int} {xs : List Value} {lost : Int} (h : Que 66 54 2 w b k A c (n + 1) (Value.int .i64 x :: Value.int .i64 y :: xs) lost) :
    Calls Try.prog 26 #[.pointer (some ⟨b, 0, none⟩)] w fun e w' => e = .returned (.tuple #[.agg #[.int .i64 x, .int .i64 y], .bool true]) ∧ Que 66 54 2 w' b k A c n xs lost ∧ Fr (fun j => j = b ∨ blk A = some j) w w' := by
  obtain ⟨A', c', hv, q1, q2, hA, q3⟩ := wide_form h.row
  have e1 : A' = A := by injection hv with hv _ _; exact hv.symm
  subst e1
  obtain ⟨g, rfl, hg⟩ := hA (by omega)
  clear q1 q2 q3 hv c' hA
  have g1 := h.is.cell 1
  have gf := h.is.frozen
  have g2 := h.row.cellAt 0 (by omega)
  have g3 := h.row.cellAt 1 (by omega)
  have hb := h.is.lt
  have hgb : g ≠ b := fun e => wide_is_ne h.row h.is (by decide) (by rw [e]; rfl)
  have i2 := Is.new (w.alloc (.cells #[.int .i64 0, .int .i64 0] 54)) 54 #[.int .i64 x, .int .i64 y]
  have i3 := (Is.new w 54 #[.int .i64 0, .int .i64 0]).alloc (.cells #[.int .i64 x, .int .i64 y] 54)
  have i4 := (h.is.alloc (.cells #[.int .i64 0, .int .i64 0] 54)).alloc (.cells #[.int .i64 x, .int .i64 y] 54)
  have f0 := ((Fr.refl (fun _ => False) w).alloc (.cells #[.int .i64 0, .int .i64 0] 54)).alloc (.cells #[.int .i64 x, .int .i64 y] 54)
  have K := delP (hd := [Value.int .i64 x, Value.int .i64 y]) (rest := xs) ((h.row.alloc (.cells #[.int .i64 0, .int .i64 0] 54)).alloc (.cells #[.int .i64 x, .int .i64 y] 54)) rfl fun u hu => h.one u (by simp [hu])
  have hlo := h.lo
  have hhi := h.hi
  have hfit := h.fit
  have hone := h.one
  simp only [World.size_alloc] at i2
  clear h
  go_enter Try.func26, Try.ntmps26
  go_wp2_with (go_at_call 32; refine K.mono ?_; clear K; rintro e w1 ⟨rfl, hr, hf⟩; have j1 := i4.fr hf (fun e => hgb e.symm); have j2 := i2.fr hf (fun e => by omega); have j3 := i3.fr hf (fun e => by omega); have hb1 := j1.lt; have q1 := j1.cell 1; have q2 := j1.frozen; have q3 := j2.cell 0; have q4 := j2.cell 1; have q5 := j3.cell 0; have q6 := j3.cell 1; have q7 := j3.frozen)
  have hgs : g < w.heap.size := hg
  have k1 := ((j1.set 1 (.slice (some ⟨g, 0, none⟩) n c)).far (p := ⟨w.heap.size, 0, none⟩) (by show b ≠ w.heap.size; omega) (.int .i64 x)).far (p := ⟨w.heap.size, 1, none⟩) (by show b ≠ w.heap.size; omega) (.int .i64 y)
  have k2 := ((j3.far (p := ⟨b, 1, none⟩) (by show w.heap.size ≠ b; omega) (.slice (some ⟨g, 0, none⟩) n c)).set 0 (.int .i64 x)).set 1 (.int .i64 y)
  have z0 := k2.cell 0
  have z1 := k2.cell 1
  have f2 := (((Fr.refl (fun j => j = b ∨ j = w.heap.size) w1).setCell (p := ⟨b, 1, none⟩) (.inl (.inl rfl)) (.slice (some ⟨g, 0, none⟩) n c)).setCell (p := ⟨w.heap.size, 0, none⟩) (.inl (.inr rfl)) (.int .i64 x)).setCell (p := ⟨w.heap.size, 1, none⟩) (.inl (.inr rfl)) (.int .i64 y)
  refine bodyPost_ret (v := .tuple #[.agg #[.int .i64 x, .int .i64 y], .bool true]) ?_ rfl ⟨rfl, ⟨?_, wide_fr hr f2 fun j hj e => ?_, hlo, hhi, by omega, fun u hu => hone u (by simp [hu])⟩, ?_⟩
  · clear k1 k2 f2 hr hf f0 hone
    simp at z0 z1
    generalize ((w1.setCell ⟨b, 1, none⟩ (.slice (some ⟨g, 0, none⟩) n c)).setCell ⟨w.heap.size, 0, none⟩ (.int .i64 x)).setCell ⟨w.heap.size, 1, none⟩ (.int .i64 y) = W at z0 z1 ⊢
    simp [results, Try.results26, go_sem, z0, z1]
  · simpa using k1
  · have := own_at hj
    rcases e with e | e <;> omega
  · refine ((f0.mono fun _ _ h => h.elim).trans (hf.mono (S' := fun j => j = b ∨ blk (some ⟨g, 0, none⟩) = some j) fun j _ hj => .inr (by rw [hj]; rfl)) fun _ _ h => h).trans f2 fun j hj hj2 => ?_
    rcases hj2 with e | e
    · exact .inl e
    · omega
/-- Take of an empty queue. -/
theorem noneP {w : World} {b k c : Nat} {A : Option Addr} {xs : List Value} {lost : Int} (h : Que 66 54 2 w b k A c 0 xs lost) :
    Calls Try.prog 26 #[.pointer (some ⟨b, 0, none⟩)] w fun e w' => e = .returned (.tuple #[.agg #[.int .i64 0, .int .i64 0], .bool false]) ∧ Fr (fun _ => False) w w' := by
  have g1 := h.is.cell 1
  have hb := h.is.lt
  clear h
  go_enter Try.func26, Try.ntmps26
  go_wp2
  exact bodyPost_ret (v := .tuple #[.agg #[.int .i64 0, .int .i64 0], .bool false]) (by simp [results, Try.results26, go_sem]) rfl ⟨rfl, ((Fr.refl _ w).alloc _).alloc _⟩
end Go.Proofs.Ytgnbaknmibncmaa

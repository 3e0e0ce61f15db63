/- The contracts of a queue's calls at texts: made of those at numbers by gen.py. -/
import Derived.Test.YtgnbaknmibncmaaQue
namespace Go.Proofs.Ytgnbaknmibncmaa
open Go.RowKit

set_option maxHeartbeats 800000 in
theorem newS (a : Int) (w : World) (h1 : -9223372036854775808 ≤ a) (h2 : a ≤ 9223372036854775807) : Calls Try.prog 19 #[.int .i64 a] w fun e w' => e = .returned (.pointer (some ⟨w.heap.size, 0, none⟩)) ∧ w' = w.alloc (.cells #[.int .i64 (roomN a : Nat), .slice none 0 0, .int .i64 0] 63) := by
  go_enter Try.func19, Try.ntmps19
  go_wp2
  all_goals
    go_ret
    refine ⟨rfl, ?_⟩
    first
    | (rw [show ((roomN a : Nat) : Int) = 1 from by unfold roomN; omega])
    | (rw [show ((roomN a : Nat) : Int) = 64 from by unfold roomN; omega])
    | (rw [show ((roomN a : Nat) : Int) = a from by unfold roomN; omega])

theorem makeS (a : Int) (w : World) (h1 : -9223372036854775808 ≤ a) (h2 : a ≤ 9223372036854775807) : Calls Try.prog 19 #[.int .i64 a] w fun e w' => e = .returned (.pointer (some ⟨w.heap.size, 0, none⟩)) ∧ Que 63 9 1 w' w.heap.size (roomN a) none 0 0 [] 0 ∧ Fr (fun _ => False) w w' ∧ w.heap.size < w'.heap.size :=
  (newS a w h1 h2).mono fun _ _ ⟨he, hw⟩ => by
    subst hw
    exact ⟨he, que_new w a, (Fr.refl _ w).alloc _, by simp⟩

theorem lenS {w : World} {b k c n : Nat} {A : Option Addr} {xs : List Value} {lost : Int} (h : Que 63 9 1 w b k A c n xs lost) : Calls Try.prog 22 #[.pointer (some ⟨b, 0, none⟩)] w fun e w' => e = .returned (.int .i64 (n : Nat)) ∧ w = w' := by
  have g0 := h.is.cell 1
  clear h
  go_enter Try.func22, Try.ntmps22
  go_wp2
  go_ret
  exact ⟨rfl, rfl⟩
theorem lostS {w : World} {b k c n : Nat} {A : Option Addr} {xs : List Value} {lost : Int} (h : Que 63 9 1 w b k A c n xs lost) : Calls Try.prog 23 #[.pointer (some ⟨b, 0, none⟩)] w fun e w' => e = .returned (.int .i64 lost) ∧ w = w' := by
  have g0 := h.is.cell 2
  clear h
  go_enter Try.func23, Try.ntmps23
  go_wp2
  go_ret
  exact ⟨rfl, rfl⟩

set_option maxHeartbeats 4000000 in
/-- Put, with f of the f + d things put, where all have room, or just f have. -/
theorem putS {w : World} {b k c n f d c2 : Nat} {A A2 : Option Addr} {xs ys zs : List Value} {lost : Int} (h : Que 63 9 1 w b k A c n xs lost) (hy : Rd w A2 (ys ++ zs)) (hl : ys.length = f * 1) (h1 : ∀ u ∈ ys, u.oneCell' = true)
    (hc2 : f + d ≤ c2) (hc2' : c2 ≤ 9223372036854775807) (hfd : d = 0 ∧ n + f ≤ k ∨ 0 < d ∧ k = n + f) :
    Calls Try.prog 20 #[.pointer (some ⟨b, 0, none⟩), .slice A2 (f + d) c2] w fun e w' => e = .returned (.int .i64 (d : Nat)) ∧
      ∃ A' c', Que 63 9 1 w' b k A' c' (n + f) (xs ++ ys) (wrap64 (lost + (d : Nat))) ∧ Fr (fun j => j = b ∨ blk A = some j) w w' ∧ (blk A' = blk A ∨ ∀ j, blk A' = some j → w.heap.size ≤ j) := by
  have g0 := h.is.cell 0
  have g1 := h.is.cell 1
  have g2 := h.is.cell 2
  have gf := h.is.frozen
  have hn := h.fit
  have hk := h.hi
  have hlo := h.lo
  have hone := h.one
  have hy1 := hy.pre
  have hrow := h.row
  have his := h.is
  obtain ⟨i0, hi0, hz0, hz1, hz2⟩ := info_parts infoS
  clear h hy
  rcases hfd with ⟨rfl, hfd⟩ | ⟨hd0, hfd⟩
  · rw [Nat.add_zero] at hc2 ⊢
    go_enter Try.func20, Try.ntmps20
    go_wp2_with fail
    go_quiet (fail)
    go_wp2_with fail
    go_region_law (refine step_append_wide _ rfl (.tmp 24) (.tmp 27) 44 rfl 0 9 i0 _ 1 16 Try.underlying44 hi0 hz0 hz1 hz2 rfl (by decide) (.slice A n c) n xs (by simp [Act.eval]) hrow A2 c2 f ys hl (by simp [Act.eval]) hy1 h1 (by unfold maxLen; omega) (by omega) (Nat.zero_le _) ?_; intro v' w1 hown hg hat; obtain ⟨i1, fr1, A', c', rfl, own1, at1⟩ := que_put (w := w) (w0 := (w.drewN nq).drew) (by decide) rfl (((Fr.refl (fun _ => False) w).drewN nq).drew) his hrow hown hg hat; have q1 := i1.cell 1; have q2 := i1.cell 2; have q3 := i1.frozen; clear hown hg hat)
    go_wp2
    go_ret
    refine ⟨rfl, ?_⟩
    rw [show lost + ((0 : Nat) : Int) = lost by simp]
    exact que_end (by decide) i1 fr1 own1 at1 hlo hk hfd fun u hu => by
      rcases List.mem_append.1 hu with hu | hu
      · exact hone u hu
      · exact h1 u hu
  · have e0 : (k : Int) - (n : Int) = (f : Int) := by omega
    have hfd1 : k ≤ n + f := by omega
    have hfd2 : n + f ≤ k := by omega
    have hfc : (f : Int) ≤ (c2 : Int) := by omega
    clear hfd
    go_enter Try.func20, Try.ntmps20
    go_wp2_with fail
    go_quiet (fail)
    go_wp2_with fail
    go_region_law (refine step_append_wide _ rfl (.tmp 24) (.tmp 27) 44 rfl 0 9 i0 _ 1 16 Try.underlying44 hi0 hz0 hz1 hz2 rfl (by decide) (.slice A n c) n xs (by simp [Act.eval]) hrow A2 c2 f ys hl (by simp [Act.eval]) hy1 h1 (by unfold maxLen; omega) (by omega) (Nat.zero_le _) ?_; intro v' w1 hown hg hat; obtain ⟨i1, fr1, A', c', rfl, own1, at1⟩ := que_put (w := w) (w0 := (w.drewN nq).drew) (by decide) rfl (((Fr.refl (fun _ => False) w).drewN nq).drew) his hrow hown hg hat; have q1 := i1.cell 1; have q2 := i1.cell 2; have q3 := i1.frozen; clear hown hg hat)
    go_wp2
    go_ret
    rw [show ((f : Int) + (d : Int) - (f : Int)) = (d : Int) by omega]
    refine ⟨rfl, ?_⟩
    exact que_end (by decide) i1 fr1 own1 at1 hlo hk hfd2 fun u hu => by
      rcases List.mem_append.1 hu with hu | hu
      · exact hone u hu
      · exact h1 u hu

set_option maxHeartbeats 4000000 in
/-- Take of a queue that has something. -/
theorem takeS {w : World} {b k c n : Nat} {A : Option Addr} {x : ByteArray} {xs : List Value} {lost : Int} (h : Que 63 9 1 w b k A c (n + 1) (Value.string x :: xs) lost) :
    Calls Try.prog 21 #[.pointer (some ⟨b, 0, none⟩)] w fun e w' => e = .returned (.tuple #[.string x, .bool true]) ∧ Que 63 9 1 w' b k A c n xs lost ∧ Fr (fun j => j = b ∨ blk A = some j) w w' := by
  obtain ⟨A', c', hv, q1, q2, hA, q3⟩ := wide_form h.row
  have e1 : A' = A := by injection hv with hv _ _; exact hv.symm
  subst e1
  obtain ⟨g, rfl, hg⟩ := hA (by omega)
  clear q1 q2 q3 hv c' hA
  have g1 := h.is.cell 1
  have gf := h.is.frozen
  have g2 := h.row.cellAt 0 (by omega)
  have hgb : g ≠ b := fun e => wide_is_ne h.row h.is (by decide) (by rw [e]; rfl)
  have K := delS (hd := [Value.string x]) (rest := xs) h.row rfl fun u hu => h.one u (by simp [hu])
  have his := h.is
  have hlo := h.lo
  have hhi := h.hi
  have hfit := h.fit
  have hone := h.one
  clear h
  go_enter Try.func21, Try.ntmps21
  go_wp2_with (go_at_call 31; refine K.mono ?_; clear K; rintro e w1 ⟨rfl, hr, hf⟩; have i1 := his.fr hf (fun e => hgb e.symm); have q1 := i1.cell 1; have q2 := i1.frozen)
  go_ret2
  have f2 := (Fr.refl (fun j => j = b) w1).setCell (p := ⟨b, 1, none⟩) (.inl rfl) (.slice (some ⟨g, 0, none⟩) n c)
  refine ⟨rfl, ⟨?_, wide_fr hr f2 fun j hj e => hgb ((own_at hj).trans e), hlo, hhi, by omega, fun u hu => hone u (by simp [hu])⟩, ?_⟩
  · simpa using i1.set 1 (.slice (some ⟨g, 0, none⟩) n c)
  · exact (hf.mono (S' := fun j => j = b ∨ blk (some ⟨g, 0, none⟩) = some j) fun j _ hj => .inr (by rw [hj]; rfl)).trans f2 fun j _ hj => .inl hj
/-- Take of an empty queue. -/
theorem noneS {w : World} {b k c : Nat} {A : Option Addr} {xs : List Value} {lost : Int} (h : Que 63 9 1 w b k A c 0 xs lost) :
    Calls Try.prog 21 #[.pointer (some ⟨b, 0, none⟩)] w fun e w' => e = .returned (.tuple #[.string .empty, .bool false]) ∧ w = w' := by
  have g1 := h.is.cell 1
  clear h
  go_enter Try.func21, Try.ntmps21
  go_wp2
  go_ret2
  exact ⟨rfl, rfl⟩

end Go.Proofs.Ytgnbaknmibncmaa

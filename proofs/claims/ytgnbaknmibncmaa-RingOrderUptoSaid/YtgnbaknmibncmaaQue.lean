/- What a queue is in memory; the contracts of its calls, at numbers, texts and pairs. -/
import Derived.Test.YtgnbaknmibncmaaDel
namespace Go.Proofs.Ytgnbaknmibncmaa
open Go.RowKit

/-- for how many a queue is that is asked to be for a things -/
def roomN (a : Int) : Nat := (min (max a 1) 64).toNat
theorem roomN_lo (a : Int) : 1 ≤ roomN a := by unfold roomN; omega
theorem roomN_hi (a : Int) : roomN a ≤ 64 := by unfold roomN; omega

/-- The block b is a queue (type t) for k things of sz cells each (type e), with n things whose cells are xs. -/
structure Que (t e : TypeId) (sz : Nat) (w : World) (b k : Nat) (A : Option Addr) (c n : Nat) (xs : List Value) (lost : Int) : Prop where
  is : Is w b t #[.int .i64 (k : Nat), .slice A n c, .int .i64 lost]
  row : w.ownsRow 0 e sz (.slice A n c) n xs
  lo : 1 ≤ k
  hi : k ≤ 64
  fit : n ≤ k
  one : ∀ u ∈ xs, u.oneCell' = true

set_option maxHeartbeats 800000 in
theorem newI (a : Int) (w : World) (h1 : -9223372036854775808 ≤ a) (h2 : a ≤ 9223372036854775807) : Calls Try.prog 8 #[.int .i64 a] w fun e w' => e = .returned (.pointer (some ⟨w.heap.size, 0, none⟩)) ∧ w' = w.alloc (.cells #[.int .i64 (roomN a : Nat), .slice none 0 0, .int .i64 0] 60) := by
  go_enter Try.func8, Try.ntmps8
  go_wp2
  all_goals
    go_ret
    refine ⟨rfl, ?_⟩
    first
    | (rw [show ((roomN a : Nat) : Int) = 1 from by unfold roomN; omega])
    | (rw [show ((roomN a : Nat) : Int) = 64 from by unfold roomN; omega])
    | (rw [show ((roomN a : Nat) : Int) = a from by unfold roomN; omega])

theorem que_new {t e : TypeId} {sz : Nat} (w : World) (a : Int) : Que t e sz (w.alloc (.cells #[.int .i64 (roomN a : Nat), .slice none 0 0, .int .i64 0] t)) w.heap.size (roomN a) none 0 0 [] 0 :=
  ⟨Is.new w t _, World.ownsRow_nil _ _ _ _, roomN_lo a, roomN_hi a, Nat.zero_le _, fun u hu => by cases hu⟩
theorem que_fr {t e : TypeId} {sz : Nat} {w w1 : World} {b k c n : Nat} {A : Option Addr} {xs : List Value} {lost : Int} {S : Nat → Prop} (h : Que t e sz w b k A c n xs lost) (f : Fr S w w1) (hb : ¬ S b) (hA : ∀ j, blk A = some j → ¬ S j) : Que t e sz w1 b k A c n xs lost :=
  ⟨h.is.fr f hb, wide_fr h.row f fun j hj => hA j (by rw [Row.own] at hj; exact hj), h.lo, h.hi, h.fit, h.one⟩
theorem que_none {t e : TypeId} {sz : Nat} {w w1 : World} {b k c n : Nat} {A : Option Addr} {xs : List Value} {lost : Int} (h : Que t e sz w b k A c n xs lost) (f : Fr (fun _ => False) w w1) : Que t e sz w1 b k A c n xs lost := que_fr h f id fun _ _ => id

theorem makeI (a : Int) (w : World) (h1 : -9223372036854775808 ≤ a) (h2 : a ≤ 9223372036854775807) : Calls Try.prog 8 #[.int .i64 a] w fun e w' => e = .returned (.pointer (some ⟨w.heap.size, 0, none⟩)) ∧ Que 60 3 1 w' w.heap.size (roomN a) none 0 0 [] 0 ∧ Fr (fun _ => False) w w' ∧ w.heap.size < w'.heap.size :=
  (newI a w h1 h2).mono fun _ _ ⟨he, hw⟩ => by
    subst hw
    exact ⟨he, que_new w a, (Fr.refl _ w).alloc _, by simp⟩

theorem lenI {w : World} {b k c n : Nat} {A : Option Addr} {xs : List Value} {lost : Int} (h : Que 60 3 1 w b k A c n xs lost) : Calls Try.prog 16 #[.pointer (some ⟨b, 0, none⟩)] w fun e w' => e = .returned (.int .i64 (n : Nat)) ∧ w = w' := by
  have g0 := h.is.cell 1
  clear h
  go_enter Try.func16, Try.ntmps16
  go_wp2
  go_ret
  exact ⟨rfl, rfl⟩
theorem capI {w : World} {b k c n : Nat} {A : Option Addr} {xs : List Value} {lost : Int} (h : Que 60 3 1 w b k A c n xs lost) : Calls Try.prog 17 #[.pointer (some ⟨b, 0, none⟩)] w fun e w' => e = .returned (.int .i64 (k : Nat)) ∧ w = w' := by
  have g0 := h.is.cell 0
  clear h
  go_enter Try.func17, Try.ntmps17
  go_wp2
  go_ret
  exact ⟨rfl, rfl⟩
theorem lostI {w : World} {b k c n : Nat} {A : Option Addr} {xs : List Value} {lost : Int} (h : Que 60 3 1 w b k A c n xs lost) : Calls Try.prog 18 #[.pointer (some ⟨b, 0, none⟩)] w fun e w' => e = .returned (.int .i64 lost) ∧ w = w' := by
  have g0 := h.is.cell 2
  clear h
  go_enter Try.func18, Try.ntmps18
  go_wp2
  go_ret
  exact ⟨rfl, rfl⟩

/-- What was appended to a queue's row: the queue's own block stays; what the new row is like. -/
theorem que_put {w w0 w1 : World} {t e : TypeId} {sz b n m : Nat} {cs : Array Value} {v v' : Value} {xs ys : List Value} (hte : e ≠ t) (hb : w0.heap.size = w.heap.size) (f : Fr (fun _ => False) w w0) (his : Is w0 b t cs) (hrow : w0.ownsRow 0 e sz v n xs) (hown : w1.ownsRow 0 e sz v' (n + m) (xs ++ ys)) (hg : w0.grownBy w1 v.ownBlock) (hat : v'.ownBlock = v.ownBlock ∨ v'.ownBlock = some w0.heap.size) :
    Is w1 b t cs ∧ Fr (fun j => v.ownBlock = some j) w w1 ∧ ∃ A' c', v' = .slice A' (n + m) c' ∧ w1.ownsRow 0 e sz (.slice A' (n + m) c') (n + m) (xs ++ ys) ∧ (v'.ownBlock = v.ownBlock ∨ ∀ j, v'.ownBlock = some j → w.heap.size ≤ j) := by
  obtain ⟨A', c', rfl, _, _, _, _⟩ := wide_form hown
  refine ⟨his.fr ((Fr.refl (fun j => v.ownBlock = some j) w0).grown hg fun _ hk => .inl hk) (wide_is_ne hrow his hte), ?_, A', c', rfl, hown, ?_⟩
  · exact (f.mono fun _ _ h => h.elim).grown hg fun _ hk => .inl hk
  · rcases hat with h | h
    · exact .inl h
    · refine .inr fun j hj => ?_
      rw [h] at hj
      injection hj with hj
      omega

theorem que_end {w w1 : World} {t e : TypeId} {sz b k m n c c' : Nat} {A A' : Option Addr} {zs : List Value} {lost lost' : Int} (hte : e ≠ t) (i1 : Is w1 b t #[.int .i64 (k : Nat), .slice A n c, .int .i64 lost]) (fr1 : Fr (fun j => (Value.slice A n c).ownBlock = some j) w w1)
    (own1 : w1.ownsRow 0 e sz (.slice A' m c') m zs) (at1 : (Value.slice A' m c').ownBlock = (Value.slice A n c).ownBlock ∨ ∀ j, (Value.slice A' m c').ownBlock = some j → w.heap.size ≤ j) (hlo : 1 ≤ k) (hhi : k ≤ 64) (hm : m ≤ k) (one : ∀ u ∈ zs, u.oneCell' = true) :
    ∃ A'' c'', Que t e sz ((w1.setCell ⟨b, 1, none⟩ (.slice A' m c')).setCell ⟨b, 2, none⟩ (.int .i64 lost')) b k A'' c'' m zs lost' ∧
      Fr (fun j => j = b ∨ blk A = some j) w ((w1.setCell ⟨b, 1, none⟩ (.slice A' m c')).setCell ⟨b, 2, none⟩ (.int .i64 lost')) ∧ (blk A'' = blk A ∨ ∀ j, blk A'' = some j → w.heap.size ≤ j) := by
  rw [Row.own, Row.own] at at1
  have hne := wide_is_ne own1 i1 hte
  have f2 := ((Fr.refl (fun j => j = b) w1).setCell (p := ⟨b, 1, none⟩) (.inl rfl) (.slice A' m c')).setCell (p := ⟨b, 2, none⟩) (.inl rfl) (.int .i64 lost')
  refine ⟨A', c', ⟨?_, wide_fr own1 f2 fun j hj e => hne (e ▸ hj), hlo, hhi, hm, one⟩, ?_, at1⟩
  · have := (i1.set 1 (.slice A' m c')).set 2 (.int .i64 lost')
    simpa using this
  · refine (fr1.mono (S' := fun j => j = b ∨ blk A = some j) fun j _ hj => ?_).trans f2 fun j _ hj => .inl hj
    rw [Row.own] at hj
    exact .inr hj
set_option maxHeartbeats 4000000 in
/-- Put, with f of the f + d things put, where all have room, or just f have. -/
theorem putI {w : World} {b k c n f d c2 : Nat} {A A2 : Option Addr} {xs ys zs : List Value} {lost : Int} (h : Que 60 3 1 w b k A c n xs lost) (hy : Rd w A2 (ys ++ zs)) (hl : ys.length = f * 1) (h1 : ∀ u ∈ ys, u.oneCell' = true)
    (hc2 : f + d ≤ c2) (hc2' : c2 ≤ 9223372036854775807) (hfd : d = 0 ∧ n + f ≤ k ∨ 0 < d ∧ k = n + f) :
    Calls Try.prog 12 #[.pointer (some ⟨b, 0, none⟩), .slice A2 (f + d) c2] w fun e w' => e = .returned (.int .i64 (d : Nat)) ∧
      ∃ A' c', Que 60 3 1 w' b k A' c' (n + f) (xs ++ ys) (wrap64 (lost + (d : Nat))) ∧ Fr (fun j => j = b ∨ blk A = some j) w w' ∧ (blk A' = blk A ∨ ∀ j, blk A' = some j → w.heap.size ≤ j) := by
  have g0 := h.is.cell 0
  have g1 := h.is.cell 1
  have g2 := h.is.cell 2
  have gf := h.is.frozen
  have hn := h.fit
  have hk := h.hi
  have hlo := h.lo
  have hone := h.one
  have hy1 := hy.pre
  have hrow := h.row
  have his := h.is
  obtain ⟨i0, hi0, hz0, hz1, hz2⟩ := info_parts infoI
  clear h hy
  rcases hfd with ⟨rfl, hfd⟩ | ⟨hd0, hfd⟩
  · rw [Nat.add_zero] at hc2 ⊢
    go_enter Try.func12, Try.ntmps12
    go_wp2_with fail
    go_quiet (fail)
    go_wp2_with fail
    go_region_law (refine step_append_wide _ rfl (.tmp 24) (.tmp 27) 28 rfl 0 3 i0 _ 1 8 Try.underlying28 hi0 hz0 hz1 hz2 rfl (by decide) (.slice A n c) n xs (by simp [Act.eval]) hrow A2 c2 f ys hl (by simp [Act.eval]) hy1 h1 (by unfold maxLen; omega) (by omega) (Nat.zero_le _) ?_; intro v' w1 hown hg hat; obtain ⟨i1, fr1, A', c', rfl, own1, at1⟩ := que_put (w := w) (w0 := (w.drewN nq).drew) (by decide) rfl (((Fr.refl (fun _ => False) w).drewN nq).drew) his hrow hown hg hat; have q1 := i1.cell 1; have q2 := i1.cell 2; have q3 := i1.frozen; clear hown hg hat)
    go_wp2
    go_ret
    refine ⟨rfl, ?_⟩
    rw [show lost + ((0 : Nat) : Int) = lost by simp]
    exact que_end (by decide) i1 fr1 own1 at1 hlo hk hfd fun u hu => by
      rcases List.mem_append.1 hu with hu | hu
      · exact hone u hu
      · exact h1 u hu
  · have e0 : (k : Int) - (n : Int) = (f : Int) := by omega
    have hfd1 : k ≤ n + f := by omega
    have hfd2 : n + f ≤ k := by omega
    have hfc : (f : Int) ≤ (c2 : Int) := by omega
    clear hfd
    go_enter Try.func12, Try.ntmps12
    go_wp2_with fail
    go_quiet (fail)
    go_wp2_with fail
    go_region_law (refine step_append_wide _ rfl (.tmp 24) (.tmp 27) 28 rfl 0 3 i0 _ 1 8 Try.underlying28 hi0 hz0 hz1 hz2 rfl (by decide) (.slice A n c) n xs (by simp [Act.eval]) hrow A2 c2 f ys hl (by simp [Act.eval]) hy1 h1 (by unfold maxLen; omega) (by omega) (Nat.zero_le _) ?_; intro v' w1 hown hg hat; obtain ⟨i1, fr1, A', c', rfl, own1, at1⟩ := que_put (w := w) (w0 := (w.drewN nq).drew) (by decide) rfl (((Fr.refl (fun _ => False) w).drewN nq).drew) his hrow hown hg hat; have q1 := i1.cell 1; have q2 := i1.cell 2; have q3 := i1.frozen; clear hown hg hat)
    go_wp2
    go_ret
    rw [show ((f : Int) + (d : Int) - (f : Int)) = (d : Int) by omega]
    refine ⟨rfl, ?_⟩
    exact que_end (by decide) i1 fr1 own1 at1 hlo hk hfd2 fun u hu => by
      rcases List.mem_append.1 hu with hu | hu
      · exact hone u hu
      · exact h1 u hu

theorem own_at {g n c j : Nat} (h : (Value.slice (some ⟨g, 0, none⟩) n c).ownBlock = some j) : g = j := by injection h

set_option maxHeartbeats 4000000 in
/-- Take of a queue that has something. -/
theorem takeI {w : World} {b k c n : Nat} {A : Option Addr} {x : Int} {xs : List Value} {lost : Int} (h : Que 60 3 1 w b k A c (n + 1) (Value.int .i64 x :: xs) lost) :
    Calls Try.prog 10 #[.pointer (some ⟨b, 0, none⟩)] w fun e w' => e = .returned (.tuple #[.int .i64 x, .bool true]) ∧ Que 60 3 1 w' b k A c n xs lost ∧ Fr (fun j => j = b ∨ blk A = some j) w w' := by
  obtain ⟨A', c', hv, q1, q2, hA, q3⟩ := wide_form h.row
  have e1 : A' = A := by injection hv with hv _ _; exact hv.symm
  subst e1
  obtain ⟨g, rfl, hg⟩ := hA (by omega)
  clear q1 q2 q3 hv c' hA
  have g1 := h.is.cell 1
  have gf := h.is.frozen
  have g2 := h.row.cellAt 0 (by omega)
  have hgb : g ≠ b := fun e => wide_is_ne h.row h.is (by decide) (by rw [e]; rfl)
  have K := delI (hd := [Value.int .i64 x]) (rest := xs) h.row rfl fun u hu => h.one u (by simp [hu])
  have his := h.is
  have hlo := h.lo
  have hhi := h.hi
  have hfit := h.fit
  have hone := h.one
  clear h
  go_enter Try.func10, Try.ntmps10
  go_wp2_with (go_at_call 30; refine K.mono ?_; clear K; rintro e w1 ⟨rfl, hr, hf⟩; have i1 := his.fr hf (fun e => hgb e.symm); have q1 := i1.cell 1; have q2 := i1.frozen)
  go_ret2
  have f2 := (Fr.refl (fun j => j = b) w1).setCell (p := ⟨b, 1, none⟩) (.inl rfl) (.slice (some ⟨g, 0, none⟩) n c)
  refine ⟨rfl, ⟨?_, wide_fr hr f2 fun j hj e => hgb ((own_at hj).trans e), hlo, hhi, by omega, fun u hu => hone u (by simp [hu])⟩, ?_⟩
  · simpa using i1.set 1 (.slice (some ⟨g, 0, none⟩) n c)
  · exact (hf.mono (S' := fun j => j = b ∨ blk (some ⟨g, 0, none⟩) = some j) fun j _ hj => .inr (by rw [hj]; rfl)).trans f2 fun j _ hj => .inl hj
/-- Take of an empty queue. -/
theorem noneI {w : World} {b k c : Nat} {A : Option Addr} {xs : List Value} {lost : Int} (h : Que 60 3 1 w b k A c 0 xs lost) :
    Calls Try.prog 10 #[.pointer (some ⟨b, 0, none⟩)] w fun e w' => e = .returned (.tuple #[.int .i64 0, .bool false]) ∧ w = w' := by
  have g1 := h.is.cell 1
  clear h
  go_enter Try.func10, Try.ntmps10
  go_wp2
  go_ret2
  exact ⟨rfl, rfl⟩

set_option maxHeartbeats 4000000 in
/-- All: new memory that reads as the queue. -/
theorem allI {w : World} {b k c n : Nat} {A : Option Addr} {xs : List Value} {lost : Int} (h : Que 60 3 1 w b k A c n xs lost) :
    Calls Try.prog 15 #[.pointer (some ⟨b, 0, none⟩)] w fun e w' => ∃ A' c', e = .returned (.slice A' n c') ∧ w'.ownsRow w.heap.size 3 1 (.slice A' n c') n xs ∧ Fr (fun _ => False) w w' := by
  have g1 := h.is.cell 1
  have hl := h.row.1
  have hr := wide_rd h.row
  have hone := h.one
  have hn := h.fit
  have hk := h.hi
  obtain ⟨i0, hi0, hz0, hz1, hz2⟩ := info_parts infoI
  clear h
  go_enter Try.func15, Try.ntmps15
  go_wp2_with (at_builtin; refine wpList_append_wide _ rfl _ (.tmp 6) 28 rfl w.heap.size 3 i0 _ 1 8 Try.underlying28 hi0 hz0 hz1 hz2 rfl (by decide) (.slice none 0 0) 0 [] rfl (World.ownsRow_nil _ _ _ _) A c n xs hl rfl hr hone (by unfold maxLen; omega) (by omega) (Nat.le_refl _) ?_; intro v' w1 hown hg hat)
  go_ret
  rw [Nat.zero_add, List.nil_append] at hown
  obtain ⟨A', c', rfl, _, _, _, _⟩ := wide_form hown
  exact ⟨A', c', rfl, hown, (Fr.refl _ w).grown hg fun j hj => by cases hj⟩
end Go.Proofs.Ytgnbaknmibncmaa

/- The contract of lives: the fixed example that each law begins with. -/
import Derived.Test.YtjhggjbfbgfekaaRtext
namespace Go.Proofs.Ytjhggjbfbgfekaa
open Go.RowKit

/-- numbers, of a list just laid -/
theorem lit_rd (w : World) (l : List Int) : Rd (w.alloc (.cells (l.map (Value.int .i64)).toArray 3)) (some ⟨w.heap.size, 0, none⟩) (l.map (Value.int .i64)) := fun _ =>
  ⟨w.heap.size, 0, rfl, by simp, fun j u hu => by
    rw [World.cell?_alloc_at _ _ _ _ rfl, Nat.zero_add]
    simpa using hu⟩
theorem lit_step {w : World} {b : Nat} {F : Option Nat} {s s' : Pk.S} (h : Wr w b F s) (f : FuncId) (l : List Int)
    (K : ∀ (w1 : World) (A : Option Addr) (c : Nat), Wr w1 b F s → Rd w1 A (l.map (Value.int .i64)) → blk A ≠ some b → (∀ k, F = some k → blk A ≠ some k) → Calls Try.prog f #[.pointer (some ⟨b, 0, none⟩), .slice A l.length c] w1 fun e w' => e = .returned (.tuple #[]) ∧ ∃ F', Wr w' b F' s' ∧ Mv w1 w' b F F') :
    Calls Try.prog f #[.pointer (some ⟨b, 0, none⟩), .slice (some ⟨w.heap.size, 0, none⟩) l.length l.length] (w.alloc (.cells (l.map (Value.int .i64)).toArray 3)) fun e w' => e = .returned (.tuple #[]) ∧ ∃ F', Wr w' b F' s' ∧ Mv w w' b F F' := by
  have hne : ∀ k, k < w.heap.size → blk (some ⟨w.heap.size, 0, none⟩) ≠ some k := fun k hk e => by
    have : w.heap.size = k := by simpa [blk] using e
    omega
  refine (K _ _ _ (h.fr ((Fr.refl (fun _ => False) w).alloc _) id (fun _ _ => id)) (lit_rd w l) (hne b h.lt) (fun k hk => hne k (h.ltF k hk))).mono fun e w' ⟨he, F', h1, h2⟩ => ⟨he, F', h1, Mv.after ((Fr.refl _ w).alloc _) h2⟩

theorem byte_lit {w : World} {b : Nat} {F : Option Nat} {s : Pk.S} (h : Wr w b F s) (l : List Int) (hlen : l.length ≤ 140737488355328) (hbd : s.L ≤ 140737488355328 ∨ s.bs.length + 1 * l.length ≤ 140737488355328) :
    Calls Try.prog 29 #[.pointer (some ⟨b, 0, none⟩), .slice (some ⟨w.heap.size, 0, none⟩) l.length l.length] (w.alloc (.cells (l.map (Value.int .i64)).toArray 3)) fun e w' => e = .returned (.tuple #[]) ∧ ∃ F', Wr w' b F' (s.nums 1 l) ∧ Mv w w' b F F' :=
  lit_step h _ l fun _ A c h1 h2 h3 h4 => byte_any h1 A c l h2 h3 h4 hlen hbd
theorem word_lit {w : World} {b : Nat} {F : Option Nat} {s : Pk.S} (h : Wr w b F s) (l : List Int) (hlen : l.length ≤ 140737488355328) (hbd : s.L ≤ 140737488355328 ∨ s.bs.length + 2 * l.length ≤ 140737488355328) :
    Calls Try.prog 30 #[.pointer (some ⟨b, 0, none⟩), .slice (some ⟨w.heap.size, 0, none⟩) l.length l.length] (w.alloc (.cells (l.map (Value.int .i64)).toArray 3)) fun e w' => e = .returned (.tuple #[]) ∧ ∃ F', Wr w' b F' (s.nums 2 l) ∧ Mv w w' b F F' :=
  lit_step h _ l fun _ A c h1 h2 h3 h4 => word_any h1 A c l h2 h3 h4 hlen hbd
theorem long_lit {w : World} {b : Nat} {F : Option Nat} {s : Pk.S} (h : Wr w b F s) (l : List Int) (hlen : l.length ≤ 140737488355328) (hbd : s.L ≤ 140737488355328 ∨ s.bs.length + 4 * l.length ≤ 140737488355328) :
    Calls Try.prog 31 #[.pointer (some ⟨b, 0, none⟩), .slice (some ⟨w.heap.size, 0, none⟩) l.length l.length] (w.alloc (.cells (l.map (Value.int .i64)).toArray 3)) fun e w' => e = .returned (.tuple #[]) ∧ ∃ F', Wr w' b F' (s.nums 4 l) ∧ Mv w w' b F F' :=
  lit_step h _ l fun _ A c h1 h2 h3 h4 => long_any h1 A c l h2 h3 h4 hlen hbd

theorem byte_one {w : World} {b : Nat} {F : Option Nat} {s : Pk.S} (h : Wr w b F s) (n : Int) (hbd : s.L ≤ 140737488355328 ∨ s.bs.length + 1 ≤ 140737488355328) :
    Calls Try.prog 29 #[.pointer (some ⟨b, 0, none⟩), .slice (some ⟨w.heap.size, 0, none⟩) 1 1] (w.alloc (.cells #[.int .i64 n] 3)) fun e w' => e = .returned (.tuple #[]) ∧ ∃ F', Wr w' b F' (s.num 1 n) ∧ Mv w w' b F F' :=
  byte_lit h [n] (by simp) (by simpa using hbd)
theorem byte_two {w : World} {b : Nat} {F : Option Nat} {s : Pk.S} (h : Wr w b F s) (n m : Int) (hbd : s.L ≤ 140737488355328 ∨ s.bs.length + 2 ≤ 140737488355328) :
    Calls Try.prog 29 #[.pointer (some ⟨b, 0, none⟩), .slice (some ⟨w.heap.size, 0, none⟩) 2 2] (w.alloc (.cells #[.int .i64 n, .int .i64 m] 3)) fun e w' => e = .returned (.tuple #[]) ∧ ∃ F', Wr w' b F' ((s.num 1 n).num 1 m) ∧ Mv w w' b F F' :=
  byte_lit h [n, m] (by simp) (by simpa using hbd)
theorem word_one {w : World} {b : Nat} {F : Option Nat} {s : Pk.S} (h : Wr w b F s) (n : Int) (hbd : s.L ≤ 140737488355328 ∨ s.bs.length + 2 ≤ 140737488355328) :
    Calls Try.prog 30 #[.pointer (some ⟨b, 0, none⟩), .slice (some ⟨w.heap.size, 0, none⟩) 1 1] (w.alloc (.cells #[.int .i64 n] 3)) fun e w' => e = .returned (.tuple #[]) ∧ ∃ F', Wr w' b F' (s.num 2 n) ∧ Mv w w' b F F' :=
  word_lit h [n] (by simp) (by simpa using hbd)
theorem long_one {w : World} {b : Nat} {F : Option Nat} {s : Pk.S} (h : Wr w b F s) (n : Int) (hbd : s.L ≤ 140737488355328 ∨ s.bs.length + 4 ≤ 140737488355328) :
    Calls Try.prog 31 #[.pointer (some ⟨b, 0, none⟩), .slice (some ⟨w.heap.size, 0, none⟩) 1 1] (w.alloc (.cells #[.int .i64 n] 3)) fun e w' => e = .returned (.tuple #[]) ∧ ∃ F', Wr w' b F' (s.num 4 n) ∧ Mv w w' b F F' :=
  long_lit h [n] (by simp) (by simpa using hbd)

/-- New, with its writer -/
theorem new_calls (n : Int) (w : World) (hn : n ≤ 9223372036854775807) :
    Calls Try.prog 11 #[.int .i64 n] w fun e w' => e = .returned (.pointer (some ⟨w.heap.size, 0, none⟩)) ∧ Wr w' w.heap.size none ⟨max n 0, [], 0⟩ ∧ Fr (fun _ => False) w w' :=
  (new_any n w).mono fun e w' ⟨he, hw⟩ => by subst hw; exact ⟨he, new_wr n w hn, (Fr.refl _ w).alloc _⟩
theorem read_calls (s : ByteArray) (w : World) :
    Calls Try.prog 18 #[.string s] w fun e w' => e = .returned (.pointer (some ⟨w.heap.size, 0, none⟩)) ∧ Re w' w.heap.size s false ∧ Fr (fun _ => False) w w' :=
  (read_any s w).mono fun e w' ⟨he, hw⟩ => by subst hw; exact ⟨he, Is.new _ _ _, (Fr.refl _ w).alloc _⟩

/-- A writer of the call's own leaves what was there before the call as it was. -/
theorem Mv.own {w0 w w' : World} {b : Nat} {F F' : Option Nat} (m : Mv w w' b F F') (f : Fr (fun _ => False) w0 w) (hb : w0.heap.size ≤ b) (hF : ∀ k, F = some k → w0.heap.size ≤ k) : Fr (fun _ => False) w0 w' ∧ ∀ k, F' = some k → w0.heap.size ≤ k := by
  refine ⟨f.trans m.1 fun k hk e => ?_, fun k hk => ?_⟩
  · rcases e with e | e
    · omega
    · have := hF k e; omega
  · rcases m.2 with e | ⟨g, e, hg⟩
    · exact hF k (e ▸ hk)
    · have : g = k := by rw [e] at hk; injection hk
      have := f.size; omega

theorem lives_end : ((((((⟨max 9 0, [], 0⟩ : Pk.S).num 1 1).num 1 255).num 2 258).num 4 65536)).done = ([1, 255, 1, 2, 0, 1, 0, 0], 0) := by decide
theorem lives_len : ((((((⟨max 9 0, [], 0⟩ : Pk.S).num 1 1).num 1 255).num 2 258).num 4 65536)).bs.length = 8 := by decide

set_option maxHeartbeats 800000 in
theorem lives_any (w : World) : Calls Try.prog 10 #[] w fun e w' => e = .returned (.bool true) ∧ Fr (fun _ => False) w w' := by
  go_enter Try.func10, Try.ntmps10
  go_wp2_with (first | (go_at_call 11; refine (new_calls 9 _ (by decide)).mono ?_; rintro e w1 ⟨rfl, hw1, hf1⟩) | (go_at_call 18; refine (read_calls _ _).mono ?_; rintro e w2 ⟨rfl, -, hf2⟩))
  have hw2 := hw1.fr hf2 id (fun _ _ => id)
  have g2 := hf1.trans hf2 (fun _ _ h => h)
  clear hw1 hf1 hf2
  go_wp2_with (go_at_call 29; refine (byte_two hw2 1 255 (.inl (by decide))).mono ?_; rintro e w3 ⟨rfl, F3, hw3, hm3⟩)
  obtain ⟨g3, o3⟩ := hm3.own g2 (Nat.le_refl _) (fun _ h => by cases h)
  clear hw2 hm3 g2
  go_wp2_with (go_at_call 30; refine (word_one hw3 258 (.inl (by decide))).mono ?_; rintro e w4 ⟨rfl, F4, hw4, hm4⟩)
  obtain ⟨g4, o4⟩ := hm4.own g3 (Nat.le_refl _) o3
  clear hw3 hm4 g3 o3
  go_wp2_with (go_at_call 31; refine (long_one hw4 65536 (.inl (by decide))).mono ?_; rintro e w5 ⟨rfl, F5, hw5, hm5⟩)
  obtain ⟨g5, o5⟩ := hm5.own g4 (Nat.le_refl _) o4
  clear hw4 hm5 g4 o4 o5
  have K6 := done_any hw5
  rw [lives_end] at K6
  go_wp2_with (go_at_call 16; refine K6.mono ?_; rintro e w6 ⟨rfl, n6, rfl⟩)
  have K7 := len_any (hw5.drewN n6)
  rw [lives_len] at K7
  clear K6
  go_wp2_with (go_at_call 15; refine K7.mono ?_; rintro e w7 ⟨rfl, rfl⟩)
  go_ret
  exact ⟨rfl, g5.drewN _⟩
end Go.Proofs.Ytjhggjbfbgfekaa

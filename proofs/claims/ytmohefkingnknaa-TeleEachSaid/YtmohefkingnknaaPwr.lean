/- The contracts of the program's writer (package pack), small calls: New, Len, Done, fail, add, put, fits: for every state of a writer, each does what the plain functions of 'Pk' say. -/
import Derived.Test.YtmohefkingnknaaRows
import Derived.Test.YtmohefkingnknaaBase
import Derived.Test.YtmohefkingnknaaPk
import Derived.ProofKit
import Derived.OpenShut
import Derived.Lib.Hide
import Derived.Deep.QuietTactic
import Derived.BigQuiet
namespace Go.Proofs.Ytmohefkingnknaa.Pa
open Go.RowKit


/-- The program's writer lies at block b, its bytes at block F (if it has any), and it stands at s. -/
def Wr (w : World) (b : Nat) (F : Option Nat) (s : Pk.S) : Prop :=
  ∃ A c, Is w b 114 #[.int .i64 s.L, .slice A s.bs.length c, .int .i64 s.e] ∧ Row 5 w A c s.bs ∧ blk A = F ∧ s.Ok

/-- A writer has moved from w to w': only its own blocks have turned; its bytes lie where they lay, or in a new block. -/
def Mv (w w' : World) (b : Nat) (F F' : Option Nat) : Prop := Fr (fun k => k = b ∨ F = some k) w w' ∧ (F' = F ∨ ∃ g, F' = some g ∧ w.heap.size ≤ g)
theorem Mv.refl (w : World) (b : Nat) (F : Option Nat) : Mv w w b F F := ⟨Fr.refl _ _, .inl rfl⟩
theorem Mv.trans {w w1 w2 : World} {b : Nat} {F F1 F2 : Option Nat} (h : Mv w w1 b F F1) (k : Mv w1 w2 b F1 F2) : Mv w w2 b F F2 := by
  refine ⟨h.1.trans k.1 fun i hi hs => ?_, ?_⟩
  · rcases hs with rfl | hs
    · exact .inl rfl
    · rcases h.2 with e | ⟨g, e, hg⟩
      · exact .inr (e ▸ hs)
      · rw [e] at hs; injection hs with hs; omega
  · rcases k.2 with e | ⟨g, e, hg⟩
    · rw [e]; exact h.2
    · exact .inr ⟨g, e, Nat.le_trans h.1.size hg⟩
theorem Mv.after {w w1 w2 : World} {b : Nat} {F F1 : Option Nat} (h : Fr (fun _ => False) w w1) (k : Mv w1 w2 b F F1) : Mv w w2 b F F1 := by
  refine ⟨(h.mono fun _ _ e => e.elim).trans k.1 fun _ _ e => e, ?_⟩
  rcases k.2 with e | ⟨g, e, hg⟩
  · exact .inl e
  · exact .inr ⟨g, e, Nat.le_trans h.size hg⟩
theorem Wr.fr {w w1 : World} {b : Nat} {F : Option Nat} {s : Pk.S} {S : Nat → Prop} (h : Wr w b F s) (f : Fr S w w1) (hb : ¬ S b) (hF : ∀ k, F = some k → ¬ S k) : Wr w1 b F s := by
  obtain ⟨A, c, h1, h2, h3, h4⟩ := h
  exact ⟨A, c, h1.fr f hb, h2.fr f (fun k hk => hF k (h3 ▸ hk)), h3, h4⟩
theorem Wr.ok {w : World} {b : Nat} {F : Option Nat} {s : Pk.S} (h : Wr w b F s) : s.Ok := by obtain ⟨A, c, h1, h2, h3, h4⟩ := h; exact h4
theorem Wr.lt {w : World} {b : Nat} {F : Option Nat} {s : Pk.S} (h : Wr w b F s) : b < w.heap.size := by obtain ⟨A, c, h1, h2, h3, h4⟩ := h; exact h1.lt
theorem Wr.ltF {w : World} {b : Nat} {F : Option Nat} {s : Pk.S} (h : Wr w b F s) : ∀ k, F = some k → k < w.heap.size := by obtain ⟨A, c, h1, h2, h3, h4⟩ := h; exact fun k hk => h2.lt k (h3.trans hk)

theorem new_any (n : Int) (w : World) :
    Calls Try.prog 31 #[.int .i64 n] w fun e w' => e = .returned (.pointer (some ⟨w.heap.size, 0, none⟩)) ∧ w' = w.alloc (.cells #[.int .i64 (max n 0), .slice none 0 0, .int .i64 0] 114) := by
  go_enter Try.func31, Try.ntmps31
  go_wp2
  all_goals go_ret
  · rw [show max n 0 = 0 from by omega]; exact ⟨rfl, rfl⟩
  · rw [show max n 0 = n from by omega]; exact ⟨rfl, rfl⟩
theorem new_wr (n : Int) (w : World) (hn : n ≤ 9223372036854775807) : Wr (w.alloc (.cells #[.int .i64 (max n 0), .slice none 0 0, .int .i64 0] 114)) w.heap.size none ⟨max n 0, [], 0⟩ :=
  ⟨none, 0, Is.new _ _ _, Row.nil _ _, rfl, by simp only [Pk.S.Ok, List.length_nil]; omega⟩

theorem fail_any {w : World} {b : Nat} {F : Option Nat} {s : Pk.S} (h : Wr w b F s) (x : Int) :
    Calls Try.prog 70 #[.pointer (some ⟨b, 0, none⟩), .int .i64 x] w fun e w' => e = .returned (.tuple #[]) ∧ Wr w' b F (s.fail x) ∧ Mv w w' b F F := by
  obtain ⟨A, c, h1, h2, h3, h4⟩ := h
  have c1 : w.cell? ⟨b, 2, none⟩ = some (.int .i64 s.e) := (h1.cell 2).trans rfl
  have f1 : w.frozen? ⟨b, 2, none⟩ = false := h1.frozen 2
  by_cases he : s.e = 0
  · have hb : (s.e == 0) = true := by simp [he]
    have He := Lib.hid he
    clear he
    go_enter Try.func70, Try.ntmps70
    go_wp2
    go_end0
    have fr : Fr (fun k => k = b ∨ F = some k) w (w.setCell ⟨b, 2, none⟩ (.int .i64 x)) := (Fr.refl _ w).setCell (p := ⟨b, 2, none⟩) (.inl (.inl rfl)) _
    refine ⟨rfl, ⟨A, c, ?_, ?_, h3, Pk.S.fail_ok h4 x⟩, fr, .inl rfl⟩
    · simp only [Pk.S.fail, He.out, if_true]
      exact h1.set 2 _
    · rw [Pk.S.fail_bs]
      have hne := h2.ne h1 (by decide)
      exact h2.fr (S := fun k => k = b) ((Fr.refl (fun k => k = b) w).setCell (p := ⟨b, 2, none⟩) (.inl rfl) _) (fun k hk e => hne (e ▸ hk))
  · have hb : (s.e == 0) = false := by simpa using he
    have He := Lib.hid he
    clear he
    go_enter Try.func70, Try.ntmps70
    go_wp2
    go_end0
    rw [Pk.S.fail_bad He.out]
    exact ⟨rfl, ⟨A, c, h1, h2, h3, h4⟩, Mv.refl _ _ _⟩

theorem conv_text {w : World} {A : Option Addr} {c : Nat} {bs : List UInt8} (h : Row 5 w A c bs) : (convert 110 9 (.slice A bs.length c)).run Try.prog w = .ok (.string ⟨bs.toArray⟩) w :=
  h.text Try.underlying110 Try.underlying5 Try.underlying9

theorem done_any {w : World} {b : Nat} {F : Option Nat} {s : Pk.S} (h : Wr w b F s) :
    Calls Try.prog 34 #[.pointer (some ⟨b, 0, none⟩)] w fun e w' => e = .returned (.tuple #[.string ⟨s.done.1.toArray⟩, .int .i64 s.done.2]) ∧ ∃ n, w' = w.drewN n := by
  obtain ⟨A, c, h1, h2, h3, h4⟩ := h
  have c1 : w.cell? ⟨b, 1, none⟩ = some (.slice A s.bs.length c) := (h1.cell 1).trans rfl
  have c2 : w.cell? ⟨b, 2, none⟩ = some (.int .i64 s.e) := (h1.cell 2).trans rfl
  have hcv := conv_text h2
  by_cases he : s.e = 0
  · have hb : (s.e != 0) = false := by simp [he]
    have hd : s.done = (s.bs, 0) := by simp [Pk.S.done, he]
    rw [hd]
    clear he hd
    go_enter Try.func34, Try.ntmps34
    go_wp2
    go_ret2
    exact ⟨rfl, 0, rfl⟩
  · have hb : (s.e != 0) = true := by simpa using he
    have hd : s.done = ([], s.e) := by simp [Pk.S.done, he]
    rw [hd]
    clear he hd
    go_enter Try.func34, Try.ntmps34
    go_wp2
    go_quiet (fail)
    go_wp2
    go_ret2
    exact ⟨rfl, _, rfl⟩
end Go.Proofs.Ytmohefkingnknaa.Pa

/- The contracts of the document's own writer (package ballastref01): it does what the plain functions of 'Pk' say. -/
import Derived.Test.YtmohefkingnknaaPfacts
namespace Go.Proofs.Ytmohefkingnknaa.Pa
open Go.RowKit

/-- The document's writer lies at block b, its bytes at block F (if it has any), and it stands at s. -/
def Wm (w : World) (b : Nat) (F : Option Nat) (s : Pk.S) : Prop :=
  ∃ A c, Is w b 117 #[.slice A s.bs.length c, .int .i64 s.L, .int .i64 s.e] ∧ Row 5 w A c s.bs ∧ blk A = F ∧ s.Ok
theorem Wm.fr {w w1 : World} {b : Nat} {F : Option Nat} {s : Pk.S} {S : Nat → Prop} (h : Wm w b F s) (f : Fr S w w1) (hb : ¬ S b) (hF : ∀ k, F = some k → ¬ S k) : Wm w1 b F s := by
  obtain ⟨A, c, h1, h2, h3, h4⟩ := h
  exact ⟨A, c, h1.fr f hb, h2.fr f (fun k hk => hF k (h3 ▸ hk)), h3, h4⟩
theorem Wm.ok {w : World} {b : Nat} {F : Option Nat} {s : Pk.S} (h : Wm w b F s) : s.Ok := by obtain ⟨A, c, h1, h2, h3, h4⟩ := h; exact h4
theorem Wm.lt {w : World} {b : Nat} {F : Option Nat} {s : Pk.S} (h : Wm w b F s) : b < w.heap.size := by obtain ⟨A, c, h1, h2, h3, h4⟩ := h; exact h1.lt
theorem Wm.ltF {w : World} {b : Nat} {F : Option Nat} {s : Pk.S} (h : Wm w b F s) : ∀ k, F = some k → k < w.heap.size := by obtain ⟨A, c, h1, h2, h3, h4⟩ := h; exact fun k hk => h2.lt k (h3.trans hk)
theorem Wm.mv {w w' : World} {b b2 : Nat} {F F2 F2' : Option Nat} {s : Pk.S} (h : Wm w b F s) (m : Mv w w' b2 F2 F2') (hs : Sep b F b2 F2) : Wm w' b F s := by
  refine h.fr m.1 ?_ ?_
  · rintro (e | e)
    · exact hs.1 e
    · exact hs.2.1 e
  · rintro k hk (e | e)
    · exact hs.2.2.1 (e ▸ hk)
    · exact hs.2.2.2 k hk e
theorem Wm.drewN {w : World} {b : Nat} {F : Option Nat} {s : Pk.S} (h : Wm w b F s) (n : Nat) : Wm (w.drewN n) b F s := h

theorem mnew_any (n : Int) (w : World) :
    Calls Try.prog 35 #[.int .i64 n] w fun e w' => e = .returned (.pointer (some ⟨w.heap.size, 0, none⟩)) ∧ w' = w.alloc (.cells #[.slice none 0 0, .int .i64 (max n 0), .int .i64 0] 117) := by
  go_enter Try.func35, Try.ntmps35
  go_wp2
  all_goals go_ret
  · rw [show max n 0 = 0 from by omega]; exact ⟨rfl, rfl⟩
  · rw [show max n 0 = n from by omega]; exact ⟨rfl, rfl⟩
theorem mnew_calls (n : Int) (w : World) (hn : n ≤ 9223372036854775807) :
    Calls Try.prog 35 #[.int .i64 n] w fun e w' => e = .returned (.pointer (some ⟨w.heap.size, 0, none⟩)) ∧ Wm w' w.heap.size none ⟨max n 0, [], 0⟩ ∧ Fr (fun _ => False) w w' :=
  (mnew_any n w).mono fun e w' ⟨he, hw⟩ => by
    subst hw
    exact ⟨he, ⟨none, 0, Is.new _ _ _, Row.nil _ _, rfl, by simp only [Pk.S.Ok, List.length_nil]; omega⟩, (Fr.refl _ w).alloc _⟩

theorem mdone_any {w : World} {b : Nat} {F : Option Nat} {s : Pk.S} (h : Wm w b F s) :
    Calls Try.prog 37 #[.pointer (some ⟨b, 0, none⟩)] w fun e w' => e = .returned (.tuple #[.string ⟨s.done.1.toArray⟩, .int .i64 s.done.2]) ∧ ∃ n, w' = w.drewN n := by
  obtain ⟨A, c, h1, h2, h3, h4⟩ := h
  have c1 : w.cell? ⟨b, 0, none⟩ = some (.slice A s.bs.length c) := (h1.cell 0).trans rfl
  have c2 : w.cell? ⟨b, 2, none⟩ = some (.int .i64 s.e) := (h1.cell 2).trans rfl
  have hcv := conv_text h2
  by_cases he : s.e = 0
  · have hb : (s.e != 0) = false := by simp [he]
    have hd : s.done = (s.bs, 0) := by simp [Pk.S.done, he]
    rw [hd]
    clear he hd
    go_enter Try.func37, Try.ntmps37
    go_wp2
    go_ret2
    exact ⟨rfl, 0, rfl⟩
  · have hb : (s.e != 0) = true := by simpa using he
    have hd : s.done = ([], s.e) := by simp [Pk.S.done, he]
    rw [hd]
    clear he hd
    go_enter Try.func37, Try.ntmps37
    go_wp2
    go_quiet (fail)
    go_wp2
    go_ret2
    exact ⟨rfl, _, rfl⟩

/-- an error is told, if none was told before -/
theorem mput_no {w : World} {b : Nat} {F : Option Nat} {s : Pk.S} (h : Wm w b F s) :
    Calls Try.prog 63 #[.pointer (some ⟨b, 0, none⟩), .slice none 0 0, .bool false] w fun e w' => e = .returned (.tuple #[]) ∧ ∃ F', Wm w' b F' (s.fail 32) ∧ Mv w w' b F F' := by
  obtain ⟨A, c, h1, h2, h3, h4⟩ := h
  have c1 : w.cell? ⟨b, 2, none⟩ = some (.int .i64 s.e) := (h1.cell 2).trans rfl
  have f1 : w.frozen? ⟨b, 2, none⟩ = false := h1.frozen 2
  by_cases he : s.e = 0
  · have hb : (s.e != 0) = false := by simp [he]
    have He := Lib.hid he
    clear he
    go_enter Try.func63, Try.ntmps63
    go_wp2
    refine bodyPost_ret (results_none rfl _ _ _) rfl ?_
    have fr : Fr (fun k => k = b ∨ F = some k) w (w.setCell ⟨b, 2, none⟩ (.int .i64 32)) := (Fr.refl _ w).setCell (p := ⟨b, 2, none⟩) (.inl (.inl rfl)) _
    refine ⟨rfl, F, ⟨A, c, ?_, ?_, h3, Pk.S.fail_ok h4 32⟩, fr, .inl rfl⟩
    · simp only [Pk.S.fail, He.out, if_true]
      exact h1.set 2 _
    · rw [Pk.S.fail_bs]
      have hne := h2.ne h1 (by decide)
      exact h2.fr (S := fun k => k = b) ((Fr.refl (fun k => k = b) w).setCell (p := ⟨b, 2, none⟩) (.inl rfl) _) (fun k hk e => hne (e ▸ hk))
  · have hb : (s.e != 0) = true := by simpa using he
    rw [Pk.S.fail_bad he]
    clear he
    go_enter Try.func63, Try.ntmps63
    go_wp2
    refine bodyPost_ret (results_none rfl _ _ _) rfl ?_
    exact ⟨rfl, F, ⟨A, c, h1, h2, h3, h4⟩, Mv.refl _ _ _⟩

set_option maxHeartbeats 800000 in
theorem mput_yes {w : World} {b : Nat} {F : Option Nat} {s : Pk.S} (h : Wm w b F s) (a : Addr) (c' : Nat) (t : List UInt8) (hr : ∀ j u, (t.map B)[j]? = some u → w.cell? (a.add j) = some u) (hbd : s.L ≤ 140737488355328 ∨ s.bs.length + t.length ≤ 140737488355328) :
    Calls Try.prog 63 #[.pointer (some ⟨b, 0, none⟩), .slice (some a) t.length c', .bool true] w fun e w' => e = .returned (.tuple #[]) ∧ ∃ F', Wm w' b F' (s.put t) ∧ Mv w w' b F F' := by
  obtain ⟨A, c, h1, h2, h3, h4⟩ := h
  have c0 : w.cell? ⟨b, 0, none⟩ = some (.slice A s.bs.length c) := (h1.cell 0).trans rfl
  have c1 : w.cell? ⟨b, 1, none⟩ = some (.int .i64 s.L) := (h1.cell 1).trans rfl
  have c2 : w.cell? ⟨b, 2, none⟩ = some (.int .i64 s.e) := (h1.cell 2).trans rfl
  have f0 : w.frozen? ⟨b, 0, none⟩ = false := h1.frozen 0
  have f2 : w.frozen? ⟨b, 2, none⟩ = false := h1.frozen 2
  obtain ⟨hL0, hL1, hL2⟩ := id h4
  have hne : blk A ≠ some b := h2.ne h1 (by decide)
  by_cases he : s.e = 0
  · have hb : (s.e != 0) = false := by simp [he]
    have hsub : IntKind.i64.wrap (s.L - (s.bs.length : Int)) = s.L - (s.bs.length : Int) := IntWalk.i64_in _ (by omega)
    by_cases hfit : (t.length : Int) ≤ s.L - s.bs.length
    · have hp : s.put t = { s with bs := s.bs ++ t } := by simp [Pk.S.put, he, hfit]
      rw [hp]
      obtain ⟨i0, hi, hz0, hz1, hz2⟩ := info_parts Try.infoB
      have hd : decide (s.L - (s.bs.length : Int) < (t.length : Int)) = false := by simp; omega
      have hbd' : s.bs.length + t.length ≤ 140737488355328 := by omega
      clear he hp hbd
      go_enter Try.func63, Try.ntmps63
      go_wp2
      go_quiet (fail)
      go_wp2_with (at_builtin; refine wpList_append_own_at _ rfl (.tmp 36) (.tmp 37) 110 rfl 0 5 i0 (.int .u8 0) 1 1 Try.underlying110 hi hz0 hz1 hz2 rfl (by decide) (.slice A s.bs.length c) s.bs.length (s.bs.map B) rfl h2 a t.length c' (t.map B) rfl (by simp) hr (by intro u hu; obtain ⟨x, _, rfl⟩ := List.mem_map.1 hu; rfl) (by unfold maxLen; omega) (by omega) (Nat.zero_le _) ?_)
      intro v' w1 hown hg _ hat
      obtain ⟨A', c1', rfl⟩ := row_form hown
      have i1 : Is w1 b 117 #[.slice A s.bs.length c, .int .i64 s.L, .int .i64 s.e] := (hg.block b h1.lt (by rw [Row.own]; exact fun e => hne e.symm)).trans h1
      have k1 : w1.cell? ⟨b, 0, none⟩ = some (.slice A s.bs.length c) := (i1.cell 0).trans rfl
      have e1 : w1.frozen? ⟨b, 0, none⟩ = false := i1.frozen 0
      clear c0 c1 c2 f0 f2 hsub hd hb
      go_wp2
      go_end0
      rw [Row.own, Row.own] at hat
      have hF' : blk A' = F ∨ ∃ g, blk A' = some g ∧ w.heap.size ≤ g := by
        rcases hat with e | e
        · exact .inl (e.trans h3)
        · exact .inr ⟨_, e, Nat.le_refl _⟩
      have hne' : blk A' ≠ some b := by
        rcases hat with e | e
        · rw [e]; exact hne
        · rw [e]; intro hh; have hl := h1.lt; have hh' : w.heap.size = b := by simpa using hh
          omega
      have hg' : w.grownBy w1 F := by rw [Row.own, h3] at hg; exact ⟨hg.os, hg.tape, hg.output, hg.size, hg.block⟩
      have fr1 : Fr (fun k => k = b ∨ F = some k) w w1 := (Fr.refl _ w).grown hg' (fun k hk => .inl (.inr hk))
      have fr2 := fr1.setCell (p := ⟨b, 0, none⟩) (.inl (.inl rfl)) (.slice A' (s.bs.length + t.length) c1')
      refine ⟨rfl, blk A', ⟨A', c1', ?_, ?_, rfl, ?_⟩, fr2, hF'⟩
      · have := i1.set 0 (.slice A' (s.bs.length + t.length) c1')
        simpa using this
      · have hrow : Row 5 w1 A' c1' (s.bs ++ t) := by
          unfold Row; simpa using hown
        exact hrow.fr (S := fun k => k = b) ((Fr.refl (fun k => k = b) w1).setCell (p := ⟨b, 0, none⟩) (.inl rfl) _) (fun k hk e => hne' (e ▸ hk))
      · have := Pk.S.put_ok h4 t
        simp only [Pk.S.Ok, List.length_append] at *
        omega
    · have hp : s.put t = { s with e := 2 } := by simp [Pk.S.put, he, hfit]
      rw [hp]
      have hd : decide (s.L - (s.bs.length : Int) < (t.length : Int)) = true := by simp; omega
      clear he hp hbd hr
      go_enter Try.func63, Try.ntmps63
      go_wp2
      go_quiet (fail)
      go_wp2
      refine bodyPost_ret (results_none rfl _ _ _) rfl ?_
      have fr : Fr (fun k => k = b ∨ F = some k) w ((w.drewN nq).setCell ⟨b, 2, none⟩ (.int .i64 2)) := ((Fr.refl _ w).drewN nq).setCell (p := ⟨b, 2, none⟩) (.inl (.inl rfl)) _
      refine ⟨rfl, F, ⟨A, c, ?_, ?_, h3, h4⟩, fr, .inl rfl⟩
      · exact h1.set 2 _
      · exact h2.fr (S := fun k => k = b) (((Fr.refl (fun k => k = b) w).drewN nq).setCell (p := ⟨b, 2, none⟩) (.inl rfl) _) (fun k hk e => hne (e ▸ hk))
  · have hb : (s.e != 0) = true := by simpa using he
    rw [Pk.S.put_bad he]
    clear he
    go_enter Try.func63, Try.ntmps63
    go_wp2
    refine bodyPost_ret (results_none rfl _ _ _) rfl ?_
    exact ⟨rfl, F, ⟨A, c, h1, h2, h3, h4⟩, Mv.refl _ _ _⟩
end Go.Proofs.Ytmohefkingnknaa.Pa

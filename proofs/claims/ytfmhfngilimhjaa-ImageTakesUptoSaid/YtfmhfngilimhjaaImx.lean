/- The image's Take, and what it leaves as plain data. -/
import Derived.Test.YtfmhfngilimhjaaImw
namespace Go.Proofs.Ytfmhfngilimhjaa.Im
open Go.RowKit Li

theorem take_in_new {w : World} {b : Nat} {ks : List Kc} {C : Te.Cf} (h : Im w b ks C) (h4 : ks.length = 4) {j : Nat} (hj : j < ks.length) (now : Int) (s : ByteArray) (hn : now ≤ 9223372036854775807) (hl0 : 0 ≤ ks[j].r.lost) (hl : ks[j].r.lost ≤ 4611686018427387904) :
    Calls Try.prog 15 #[.pointer (some ⟨b, 0, none⟩), .int .i64 now, .int .i64 (j : Int), .string s] w fun e w' => ∃ k : Kc, e = .returned (.int .i64 (ks[j].m.hear ks[j].h.st.hs now (readL (bytesOf s))).2) ∧ k.m = (ks[j].m.hear ks[j].h.st.hs now (readL (bytesOf s))).1 ∧ k.h = ks[j].h ∧ k.rb = ks[j].rb ∧ Im w' b (ks.set j k) C ∧ Fr (fun q => q = b ∨ q = ks[j].rb) w w' ∧ (k.s = ks[j].s ∨ k.s.New w.heap.size) := by
  have KH := has_any b (j : Int) w
  have e1 : (decide (0 ≤ (j : Int)) && decide ((j : Int) < 4)) = true := by simp; omega
  rw [e1] at KH
  have KR := hear_new h hj now s hn hl0 hl
  have hj4 : (j : Int) < 4 := by omega
  generalize ks[j].m.hear ks[j].h.st.hs now (readL (bytesOf s)) = X at *
  clear e1 h hl0 hl
  go_enter Try.func15, Try.ntmps15
  go_wp2_with (first | (go_at_call 42; refine KH.mono ?_; rintro e w1 ⟨rfl, rfl⟩; clear KH) | (go_at_call 43; refine KR.mono ?_; rintro e w2 ⟨k, rfl, hk⟩; clear KR))
  go_ret
  exact ⟨k, rfl, hk⟩
theorem take_in {w : World} {b : Nat} {ks : List Kc} {C : Te.Cf} (h : Im w b ks C) (h4 : ks.length = 4) {j : Nat} (hj : j < ks.length) (now : Int) (s : ByteArray) (hn : now ≤ 9223372036854775807) (hl0 : 0 ≤ ks[j].r.lost) (hl : ks[j].r.lost ≤ 4611686018427387904) :
    Calls Try.prog 15 #[.pointer (some ⟨b, 0, none⟩), .int .i64 now, .int .i64 (j : Int), .string s] w fun e w' => ∃ k : Kc, e = .returned (.int .i64 (ks[j].m.hear ks[j].h.st.hs now (readL (bytesOf s))).2) ∧ k.m = (ks[j].m.hear ks[j].h.st.hs now (readL (bytesOf s))).1 ∧ k.h = ks[j].h ∧ k.rb = ks[j].rb ∧ Im w' b (ks.set j k) C ∧ Fr (fun q => q = b ∨ q = ks[j].rb) w w' :=
  (take_in_new h h4 hj now s hn hl0 hl).mono fun _ _ ⟨k, a, b, c, d, e, f, _⟩ => ⟨k, a, b, c, d, e, f⟩
theorem take_out {w : World} (b : Nat) {oc : Int} (ho : ¬ (0 ≤ oc ∧ oc < 4)) (now : Int) (s : ByteArray) :
    Calls Try.prog 15 #[.pointer (some ⟨b, 0, none⟩), .int .i64 now, .int .i64 oc, .string s] w fun e w' => e = .returned (.int .i64 20) ∧ w' = w := by
  have KH := has_any b oc w
  have e1 : (decide (0 ≤ oc) && decide (oc < 4)) = false := by
    rw [Bool.and_eq_false_iff, decide_eq_false_iff_not, decide_eq_false_iff_not]
    omega
  rw [e1] at KH
  clear e1 ho
  go_enter Try.func15, Try.ntmps15
  go_wp2_with (go_at_call 42; refine KH.mono ?_; rintro e w1 ⟨rfl, rfl⟩; clear KH)
  go_ret
  exact ⟨rfl, rfl⟩

/-- what a telegram that is taken leaves -/
theorem rst_hs {h : Te.Hs} {t : List UInt8} (ht : (Te.rstL h t).2 = 0) : (Te.rstL h t).1.hs = h := by
  have k := (Te.st_ok (Te.st_rst ht)).1
  rw [Te.St.ok_iff] at k
  unfold Te.St.hs
  obtain ⟨a, b, c, d⟩ := k
  rw [(Te.okL_iff.1 a).1, (Te.okL_iff.1 b).1, (Te.okL_iff.1 c).1, (Te.okL_iff.1 d).1]
theorem add_last (r : R) (n : Int) : (r.add n).last = r.last ∧ (r.add n).peer = r.peer ∧ (r.add n).age = r.age := by
  unfold R.add
  split <;> exact ⟨rfl, rfl, rfl⟩
/-- a telegram is taken -/
theorem take_fine {r : R} {now : Int} {t : T} (h : (r.take now t).2.1 = 0) : t.e = 0 ∧ r.refuse now t.p t.s = 0 ∧ r.take now t = (t.x, 0, { r with last := t.s }.add t.n) := by
  by_cases he : t.e = 0
  · by_cases hk : r.refuse now t.p t.s = 0
    · exact ⟨he, hk, take_ok he hk⟩
    · rw [take_no he hk] at h
      exact absurd h hk
  · rw [take_bad he] at h
    exact absurd h he
theorem take_kept {r : R} {now : Int} {t : T} (h : (r.take now t).2.1 ≠ 0) : (r.take now t).2.2 = r := by
  by_cases he : t.e = 0
  · by_cases hk : r.refuse now t.p t.s = 0
    · rw [take_ok he hk] at h
      exact absurd rfl h
    · rw [take_no he hk]
  · rw [take_bad he]
theorem add_lost (r : R) (n : Int) : r.lost ≤ (r.add n).lost ∧ (r.add n).lost ≤ r.lost + 32767 := by
  unfold R.add
  have := lostStep_bd r.newest n
  split
  · constructor
    · show r.lost ≤ r.lost + _
      omega
    · show r.lost + _ ≤ _
      omega
  · exact ⟨Int.le_refl _, by show r.lost ≤ r.lost + 32767; omega⟩
theorem take_lost (r : R) (now : Int) (t : T) : r.lost ≤ (r.take now t).2.2.lost ∧ (r.take now t).2.2.lost ≤ r.lost + 32767 ∧ (r.take now t).2.2.peer = r.peer ∧ (r.take now t).2.2.age = r.age := by
  by_cases h : (r.take now t).2.1 = 0
  · rw [(take_fine h).2.2]
    have a := add_lost { r with last := t.s } t.n
    have b := add_last { r with last := t.s } t.n
    exact ⟨a.1, a.2, b.2.1, b.2.2⟩
  · rw [take_kept h]
    exact ⟨Int.le_refl _, by omega, rfl, rfl⟩
/-- what a controller said: in three words -/
theorem hear_cases (k : Km) (h : Te.Hs) (now : Int) (t : T) :
    ((k.hear h now t).1.r = (k.r.take now t).2.2) ∧ (((k.hear h now t).2 ≠ 0 ∧ (k.hear h now t).1.s = k.s ∧ (k.hear h now t).1.z = k.z) ∨
      ((k.hear h now t).2 = 0 ∧ (k.r.take now t).2.1 = 0 ∧ (Te.rstL h t.x).2 = 0 ∧ (k.hear h now t).1.s = (Te.rstL h t.x).1 ∧ (k.hear h now t).1.z = t.s)) := by
  unfold Km.hear
  by_cases h1 : (k.r.take now t).2.1 = 0
  · rw [if_pos h1]
    have f := take_fine h1
    have fx : (k.r.take now t).1 = t.x := by rw [f.2.2]
    have fl : (k.r.take now t).2.2.last = t.s := by
      rw [f.2.2]
      exact (add_last _ _).1
    rw [fx]
    by_cases h2 : (Te.rstL h t.x).2 = 0
    · rw [if_pos h2]
      exact ⟨rfl, .inr ⟨rfl, h1, h2, rfl, fl⟩⟩
    · rw [if_neg h2]
      exact ⟨rfl, .inl ⟨h2, rfl, rfl⟩⟩
  · rw [if_neg h1]
    exact ⟨rfl, .inl ⟨h1, rfl, rfl⟩⟩
theorem Fit.hear {C : Te.Cf} {j : Nat} {k k' : Kc} (h : Fit C j k) (now : Int) (l : List UInt8) (hm : k'.m = (k.m.hear k.h.st.hs now (readL l)).1) (hh : k'.h = k.h) : Fit C j k' := by
  obtain ⟨hr, c⟩ := hear_cases k.m k.h.st.hs now (readL l)
  have e1 : k'.z = (k.m.hear k.h.st.hs now (readL l)).1.z := congrArg Km.z hm
  have e2 : k'.s.st = (k.m.hear k.h.st.hs now (readL l)).1.s := congrArg Km.s hm
  rcases c with ⟨_, c1, c2⟩ | ⟨_, c0, c1, c2, c3⟩
  · refine ⟨by rw [hh]; exact h.h, by rw [e1, c2]; exact h.z, fun hz => ?_⟩
    rw [e2, c1, hh]
    refine h.s fun e => hz ?_
    rw [e1, c2]
    exact e
  · have hb := read_bd (take_fine c0).1
    refine ⟨by rw [hh]; exact h.h, by rw [e1, c3]; omega, fun _ => ?_⟩
    rw [e2, c2, hh]
    exact rst_hs c1
end Go.Proofs.Ytfmhfngilimhjaa.Im

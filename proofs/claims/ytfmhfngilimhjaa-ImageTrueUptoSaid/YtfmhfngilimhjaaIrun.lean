/- ImageTrue: what holds of an image behind the first n texts; a text more. -/
import Derived.Test.YtfmhfngilimhjaaIsaid
import Derived.Test.YtfmhfngilimhjaaIml
namespace Go.Proofs.Ytfmhfngilimhjaa.Im
open Go.RowKit Li

structure Run (w : World) (b : Nat) (ks : List Kc) (C : Te.Cf) (l : List Cw) (n z0 : Nat) : Prop where
  im : Im w b ks C
  h4 : ks.length = 4
  fit : ∀ j (hj : j < ks.length), Fit C j ks[j]
  hist : Hist C ks l n
  lost : ∀ j (hj : j < ks.length), 0 ≤ ks[j].r.lost ∧ ks[j].r.lost ≤ 32767 * (n : Int)
  foot : ∀ q, Foot b ks q → z0 ≤ q
theorem Run.fr0 {w w' : World} {b : Nat} {ks : List Kc} {C : Te.Cf} {l : List Cw} {n z0 : Nat} (h : Run w b ks C l n z0) (f : Fr (fun _ => False) w w') : Run w' b ks C l n z0 := ⟨h.im.fr0 f, h.h4, h.fit, h.hist, h.lost, h.foot⟩
theorem foot_set {b : Nat} {ks : List Kc} {j : Nat} (hj : j < ks.length) {k : Kc} (hr : k.rb = ks[j].rb) : ∀ q, Foot b (ks.set j k) q → Foot b ks q := fun q hq => by
  rcases hq with h | ⟨k', hk, rfl⟩
  · exact .inl h
  · rcases List.mem_or_eq_of_mem_set hk with hk | rfl
    · exact .inr ⟨k', hk, rfl⟩
    · exact .inr ⟨_, List.getElem_mem hj, hr⟩
theorem run_take {w : World} {b : Nat} {ks : List Kc} {C : Te.Cf} {l : List Cw} {n z0 : Nat} (h : Run w b ks C l n z0) (hn : n < l.length) (hl : l.length ≤ 1048576) (hnow : l[n].now ≤ 9223372036854775807) :
    Calls Try.prog 15 #[.pointer (some ⟨b, 0, none⟩), .int .i64 l[n].now, .int .i64 l[n].oc, .string l[n].x] w fun e w' => ∃ (v : Int) (ks' : List Kc), e = .returned (.int .i64 v) ∧ Run w' b ks' C l (n + 1) z0 ∧ Fr (Foot b ks) w w' := by
  by_cases ho : 0 ≤ l[n].oc ∧ l[n].oc < 4
  · obtain ⟨j, hoc⟩ : ∃ j : Nat, l[n].oc = (j : Int) := ⟨l[n].oc.toNat, by omega⟩
    have hj : j < ks.length := by
      have := h.h4
      omega
    have hlo := h.lost j hj
    have K := take_in h.im h.h4 hj l[n].now l[n].x hnow hlo.1 (by omega)
    rw [← hoc] at K
    refine K.mono fun e w' ⟨k, he, hm, hh, hr, him, f⟩ => ⟨_, ks.set j k, he, ⟨him, by rw [List.length_set]; exact h.h4, fun j' hj' => ?_, h.hist.hear hn hj hoc (h.fit j hj) l[n].now hm, fun j' hj' => ?_, fun q hq => h.foot q (foot_set hj hr q hq)⟩, f.mono fun q _ hq => ?_⟩
    · rw [List.length_set] at hj'
      by_cases e : j = j'
      · subst e
        rw [List.getElem_set_self]
        exact (h.fit j hj).hear l[n].now (bytesOf l[n].x) hm hh
      · rw [List.getElem_set_ne e]
        exact h.fit j' hj'
    · rw [List.length_set] at hj'
      by_cases e : j = j'
      · subst e
        rw [List.getElem_set_self]
        have e1 : k.r = (ks[j].m.hear ks[j].h.st.hs l[n].now (readL (bytesOf l[n].x))).1.r := congrArg Km.r hm
        rw [e1, (hear_cases _ _ _ _).1]
        have a := take_lost ks[j].m.r l[n].now (readL (bytesOf l[n].x))
        have a1 := a.1
        have a2 := a.2.1
        have e2 : ks[j].m.r.lost = ks[j].r.lost := rfl
        rw [e2] at a1 a2
        omega
      · rw [List.getElem_set_ne e]
        have := h.lost j' hj'
        omega
    · rcases hq with hq | hq
      · exact .inl hq
      · exact .inr ⟨_, List.getElem_mem hj, hq⟩
  · refine (take_out b ho l[n].now l[n].x).mono fun e w' ⟨he, hw⟩ => ⟨_, ks, he, ?_, ?_⟩
    · subst hw
      exact ⟨h.im, h.h4, h.fit, h.hist.le (Nat.le_succ n), fun j hj => by have := h.lost j hj; omega, h.foot⟩
    · subst hw
      exact Fr.refl _ _
end Go.Proofs.Ytfmhfngilimhjaa.Im

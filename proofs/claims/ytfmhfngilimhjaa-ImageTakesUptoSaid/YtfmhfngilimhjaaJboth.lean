/- Both images, the program's and the document's, side by side; a third one that is left alone. -/
import Derived.Test.YtfmhfngilimhjaaJsame
import Derived.Test.YtfmhfngilimhjaaJtk
import Derived.Test.YtfmhfngilimhjaaIml
namespace Go.Proofs.Ytfmhfngilimhjaa.Im
open Go.RowKit Li

/-- what one telegram leaves of the controllers, and the answer -/
def stepM (C : Te.Cf) (M : Nat → Km) (now oc : Int) (t : T) : (Nat → Km) × Int :=
  if 0 ≤ oc ∧ oc < 4 then (fun i => if i = oc.toNat then ((M i).hear (Te.shL C oc).hs now t).1 else M i, ((M oc.toNat).hear (Te.shL C oc).hs now t).2) else (M, 20)
def alM (C : Te.Cf) (M : Nat → Km) (now oc : Int) : Bool := if 0 ≤ oc ∧ oc < 4 then (M oc.toNat).fresh now C.t.age else false
def lostM (M : Nat → Km) : Int := (M 0).r.lost + ((M 1).r.lost + ((M 2).r.lost + (M 3).r.lost))
structure Both (w : World) (z0 base b ob : Nat) (p : Jp) (C : Te.Cf) (n nJ : Nat) (M M' : Nat → Km) (ks oks : List Kc) (rs : List Kr) : Prop where
  im : Im w b ks C
  h4 : ks.length = 4
  fit : ∀ j (hj : j < ks.length), Fit C j ks[j]
  lost : ∀ k ∈ ks, 0 ≤ k.r.lost ∧ k.r.lost ≤ 32767 * (n : Int)
  keq : ∀ j (hj : j < ks.length), ks[j].m = M j
  jm : Jm w base nJ p C rs
  jeq : ∀ j (hj : j < rs.length), rs[j].m = M' j
  foot : ∀ q, Foot b ks q → z0 ≤ q ∧ q < base
  hz : z0 ≤ base
  off : ∀ k ∈ ks, k.h.Off (Jf p rs) ∧ k.s.Off (Jf p rs)
  om : Im w ob oks C
  o4 : oks.length = 4
  olost : ∀ k ∈ oks, k.r.lost = 0
  ofoot : ∀ q, Foot ob oks q → base ≤ q ∧ ¬ Jf p rs q
  ooff : ∀ k ∈ oks, (k.h.Off (Jf p rs) ∧ k.s.Off (Jf p rs)) ∧ k.h.Off (Foot b ks) ∧ k.s.Off (Foot b ks)
theorem foot_set' {b : Nat} {ks : List Kc} {j : Nat} (hj : j < ks.length) {k : Kc} (hr : k.rb = ks[j].rb) : ∀ q, Foot b (ks.set j k) q → Foot b ks q := fun q hq => by
  rcases hq with h | ⟨k', hk, rfl⟩
  · exact .inl h
  · rcases List.mem_or_eq_of_mem_set hk with hk | rfl
    · exact .inr ⟨k', hk, rfl⟩
    · exact .inr ⟨_, List.getElem_mem hj, hr⟩
theorem Jm.more {w : World} {base n : Nat} {p : Jp} {C : Te.Cf} {ks : List Kr} (h : Jm w base n p C ks) : Jm w base (n + 1) p C ks := { h with mx := fun k hk => (h.mx k hk).mono (Nat.le_succ n) }
section
variable {w w1 : World} {z0 base b ob : Nat} {p : Jp} {C : Te.Cf} {n nJ : Nat} {M M' : Nat → Km} {ks oks : List Kc} {rs : List Kr}
theorem Both.fr0 (h : Both w z0 base b ob p C n nJ M M' ks oks rs) (f : Fr (fun _ => False) w w1) : Both w1 z0 base b ob p C n nJ M M' ks oks rs :=
  { h with im := h.im.fr0 f, jm := h.jm.fr0 f, om := h.om.fr0 f }
/-- blocks that are in none of them -/
theorem Both.jlo (h : Both w z0 base b ob p C n nJ M M' ks oks rs) {q : Nat} (hq : Jf p rs q) : base ≤ q := (Jf.lo h.jm hq).1
theorem prog_take (h : Both w z0 base b ob p C n nJ M M' ks oks rs) (hn : n ≤ 1048576) (now oc : Int) (s : ByteArray) (hnow : now ≤ 9223372036854775807) :
    Calls Try.prog 15 #[.pointer (some ⟨b, 0, none⟩), .int .i64 now, .int .i64 oc, .string s] w fun e w' => ∃ ks', e = .returned (.int .i64 (stepM C M now oc (readL (bytesOf s))).2) ∧ Both w' z0 base b ob p C (n + 1) nJ (stepM C M now oc (readL (bytesOf s))).1 M' ks' oks rs ∧ Fr (fun q => z0 ≤ q ∧ q < base) w w' := by
  by_cases ho : 0 ≤ oc ∧ oc < 4
  · obtain ⟨j, rfl⟩ : ∃ j : Nat, oc = (j : Int) := ⟨oc.toNat, by omega⟩
    have hj : j < ks.length := by have := h.h4; omega
    have hm := List.getElem_mem hj
    have hlo := h.lost _ hm
    have hst : ks[j].h.st.hs = (Te.shL C (j : Int)).hs := by rw [(h.fit j hj).h]
    have K := take_in_new h.im h.h4 hj now s hnow hlo.1 (by omega)
    rw [hst, h.keq j hj] at K
    have e2 : (stepM C M now (j : Int) (readL (bytesOf s))) = (fun i => if i = j then ((M i).hear (Te.shL C (j : Int)).hs now (readL (bytesOf s))).1 else M i, ((M j).hear (Te.shL C (j : Int)).hs now (readL (bytesOf s))).2) := by
      unfold stepM
      rw [if_pos ho, Int.toNat_natCast]
    rw [e2]
    refine K.mono fun e w' ⟨k, he, hkm, hkh, hkr, him, f, hns⟩ => ⟨ks.set j k, he, ?_, f.mono fun q _ hq => ?_⟩
    · have hmem : ∀ x ∈ ks.set j k, x ∈ ks ∨ x = k := fun x hx => List.mem_or_eq_of_mem_set hx
      have hfs := foot_set' (b := b) hj hkr
      have hfj : ∀ q, (q = b ∨ q = ks[j].rb) → Foot b ks q := fun q hq => by
        rcases hq with hq | hq
        · exact .inl hq
        · exact .inr ⟨_, hm, hq⟩
      have hjw : ∀ q, Jf p rs q → q < w.heap.size := fun q hq => (Jf.lo h.jm hq).2
      refine ⟨him, by rw [List.length_set]; exact h.h4, fun i hi => ?_, fun x hx => ?_, fun i hi => ?_, h.jm.fr f fun q hq => (h.foot q (hfj q hq)).2, h.jeq, fun q hq => h.foot q (hfs q hq), h.hz, fun x hx => ?_, ?_, h.o4, h.olost, h.ofoot, fun x hx => ⟨(h.ooff x hx).1, (h.ooff x hx).2.1.mono hfs, (h.ooff x hx).2.2.mono hfs⟩⟩
      · rcases getElem_set_cases hi with ⟨rfl, e⟩ | ⟨_, h', e⟩ <;> rw [e]
        · exact (h.fit i hj).hear now (bytesOf s) (by rw [hkm, hst, h.keq i hj]) hkh
        · exact h.fit i h'
      · rcases hmem x hx with hx | rfl
        · have := h.lost x hx
          omega
        · have e1 : x.r = ((M j).hear (Te.shL C (j : Int)).hs now (readL (bytesOf s))).1.r := congrArg Km.r hkm
          rw [e1, (hear_cases _ _ _ _).1]
          have a := take_lost (M j).r now (readL (bytesOf s))
          have a1 := a.1
          have a2 := a.2.1
          have e3 : (M j).r = ks[j].r := by rw [← h.keq j hj]; rfl
          rw [e3] at a1 a2 ⊢
          omega
      · rcases getElem_set_cases hi with ⟨rfl, e⟩ | ⟨hne, h', e⟩ <;> rw [e]
        · simp only [if_pos]
          exact hkm
        · simp only [if_neg hne]
          exact h.keq i h'
      · rcases hmem x hx with hx | rfl
        · exact h.off x hx
        · refine ⟨hkh ▸ (h.off _ hm).1, ?_⟩
          rcases hns with e | e
          · exact e ▸ (h.off _ hm).2
          · exact e.off hjw
      · refine h.om.fr f (fun q hq hc => ?_) fun k hk => ⟨(h.ooff k hk).2.1.mono hfj, (h.ooff k hk).2.2.mono hfj⟩
        have a := (h.ofoot q hq).1
        have b := (h.foot q (hfj q hc)).2
        omega
    · rcases hq with rfl | rfl
      · exact h.foot _ (.inl rfl)
      · exact h.foot _ (.inr ⟨_, hm, rfl⟩)
  · have e2 : stepM C M now oc (readL (bytesOf s)) = (M, 20) := if_neg ho
    rw [e2]
    refine (take_out b ho now s).mono fun e w' ⟨he, hw⟩ => ⟨ks, he, ?_, ?_⟩
    · subst hw
      exact { h with lost := fun k hk => by have := h.lost k hk; omega }
    · subst hw
      exact Fr.refl _ _
theorem ref_take {w0 : World} (h : Both w z0 base b ob p C n nJ M M' ks oks rs) (hC : C.Ok w0) (hb0 : w0.heap.size ≤ base) (F0 : Fr (fun _ => False) w0 w) (hn : nJ ≤ 1048576) (now oc : Int) (s : ByteArray) (hnow : now ≤ 9223372036854775807) (hs : s.size ≤ 1048576) :
    Calls Try.prog 16 #[.pointer (some ⟨p.b, 0, none⟩), .int .i64 now, .int .i64 oc, .string s] w fun e w' => ∃ rs', e = .returned (.int .i64 (stepM C M' now oc (readL (bytesOf s))).2) ∧ Both w' z0 base b ob p C n (nJ + 1) M (stepM C M' now oc (readL (bytesOf s))).1 ks oks rs' ∧ Fr (Jf p rs) w w' := by
  by_cases ho : 0 ≤ oc ∧ oc < 4
  · obtain ⟨j, rfl⟩ : ∃ j : Nat, oc = (j : Int) := ⟨oc.toNat, by omega⟩
    have hj : j < rs.length := by have := h.jm.h4; omega
    have K := jtake_in h.jm hC hb0 F0 hj (by omega) now s hnow (by omega)
    rw [h.jeq j hj] at K
    have e2 : (stepM C M' now (j : Int) (readL (bytesOf s))) = (fun i => if i = j then ((M' i).hear (Te.shL C (j : Int)).hs now (readL (bytesOf s))).1 else M' i, ((M' j).hear (Te.shL C (j : Int)).hs now (readL (bytesOf s))).2) := by
      unfold stepM
      rw [if_pos ho, Int.toNat_natCast]
    rw [e2]
    refine K.mono fun e w' ⟨k, he, hkm, _, hjm, f, hjf⟩ => ⟨rs.set j k, he, ?_, f⟩
    refine ⟨h.im.fr f (fun q hq hc => ?_) h.off, h.h4, h.fit, h.lost, h.keq, hjm, fun i hi => ?_, h.foot, h.hz, fun x hx => ?_, h.om.fr f (fun q hq => (h.ofoot q hq).2) fun x hx => (h.ooff x hx).1, h.o4, h.olost, fun q hq => ⟨(h.ofoot q hq).1, fun hc => ?_⟩, fun x hx => ⟨?_, (h.ooff x hx).2⟩⟩
    · have a := (h.foot q hq).2
      have b := h.jlo hc
      omega
    · rcases getElem_set_cases hi with ⟨rfl, e⟩ | ⟨hne, h', e⟩ <;> rw [e]
      · simp only [if_pos]
        exact hkm
      · simp only [if_neg hne]
        exact h.jeq i h'
    · exact ⟨((h.off x hx).1.or ((h.im.ok x hx).h.off_new (S := fun q => w.heap.size ≤ q) fun _ hq => hq)).mono hjf, ((h.off x hx).2.or ((h.im.ok x hx).s.off_new (S := fun q => w.heap.size ≤ q) fun _ hq => hq)).mono hjf⟩
    · rcases hjf q hc with hc | hc
      · exact (h.ofoot q hq).2 hc
      · have := h.om.foot_lt hq
        omega
    · exact ⟨((h.ooff x hx).1.1.or ((h.om.ok x hx).h.off_new (S := fun q => w.heap.size ≤ q) fun _ hq => hq)).mono hjf, ((h.ooff x hx).1.2.or ((h.om.ok x hx).s.off_new (S := fun q => w.heap.size ≤ q) fun _ hq => hq)).mono hjf⟩
  · have e2 : stepM C M' now oc (readL (bytesOf s)) = (M', 20) := if_neg ho
    rw [e2]
    refine (jtake_out ho now s).mono fun e w' ⟨he, hw⟩ => ⟨rs, he, ?_, ?_⟩
    · subst hw
      exact { h with jm := h.jm.more }
    · subst hw
      exact Fr.refl _ _
theorem prog_alive (h : Both w z0 base b ob p C n nJ M M' ks oks rs) (now oc : Int) (hnow : now ≤ 9223372036854775807) :
    Calls Try.prog 17 #[.pointer (some ⟨b, 0, none⟩), .int .i64 now, .int .i64 oc] w fun e w' => e = .returned (.bool (alM C M now oc)) ∧ Fr (fun _ => False) w w' := by
  by_cases ho : 0 ≤ oc ∧ oc < 4
  · obtain ⟨j, rfl⟩ : ∃ j : Nat, oc = (j : Int) := ⟨oc.toNat, by omega⟩
    have hj : j < ks.length := by have := h.h4; omega
    have K := alive_in h.im h.h4 hj (h.fit j hj).z now hnow
    rw [h.keq j hj] at K
    have e : alM C M now (j : Int) = (M j).fresh now C.t.age := by
      unfold alM
      rw [if_pos ho, Int.toNat_natCast]
    rw [e]
    exact K
  · have e : alM C M now oc = false := if_neg ho
    rw [e]
    exact alive_out b ho now
theorem Both.z (h : Both w z0 base b ob p C n nJ M M ks oks rs) : ∀ k ∈ rs, -1 ≤ k.z := fun k hk => by
  obtain ⟨j, hj, rfl⟩ := List.getElem_of_mem hk
  have hj' : j < ks.length := by have := h.h4; have := h.jm.h4; omega
  have e : rs[j].z = ks[j].z := by
    have e1 : rs[j].m = ks[j].m := by rw [h.jeq j hj, h.keq j hj']
    exact congrArg Km.z e1
  rw [e]
  exact (h.fit j hj').z
theorem ref_alive (h : Both w z0 base b ob p C n nJ M M ks oks rs) (now oc : Int) (hnow : now ≤ 9223372036854775807) :
    Calls Try.prog 18 #[.pointer (some ⟨p.b, 0, none⟩), .int .i64 now, .int .i64 oc] w fun e w' => e = .returned (.bool (alM C M now oc)) ∧ Fr (fun _ => False) w w' := by
  have K := jalive_any h.jm h.z now oc hnow
  have e : alF rs C.t.age now oc = alM C M now oc := by
    unfold alF alM
    by_cases h0 : 0 ≤ oc
    · rw [if_pos h0]
      by_cases h1 : oc < 4
      · have hj : oc.toNat < rs.length := by have := h.jm.h4; omega
        rw [if_pos ⟨h0, h1⟩, List.getElem?_eq_getElem hj, ← h.jeq _ hj]
      · rw [if_neg (fun c => h1 c.2), List.getElem?_eq_none (by have := h.jm.h4; omega)]
    · rw [if_neg h0, if_neg (fun c => h0 c.1)]
  rw [e] at K
  exact K
theorem four_of {α : Type} {l : List α} (h : l.length = 4) : ∃ a b c d, l = [a, b, c, d] := by
  match l, h with
  | [a, b, c, d], _ => exact ⟨a, b, c, d, rfl⟩
theorem prog_lost (h : Both w z0 base b ob p C n nJ M M' ks oks rs) (hn : n ≤ 1048577) :
    Calls Try.prog 19 #[.pointer (some ⟨b, 0, none⟩)] w fun e w' => e = .returned (.int .i64 (lostM M)) ∧ Fr (fun _ => False) w w' := by
  have K := lost_any h.im h.h4 fun k hk => by have := h.lost k hk; omega
  have e : lostL ks = lostM M := by
    have k := h.keq
    obtain ⟨k0, k1, k2, k3, rfl⟩ := four_of h.h4
    unfold lostL lostM
    rw [← k 0 (by simp), ← k 1 (by simp), ← k 2 (by simp), ← k 3 (by simp)]
    simp [Kc.m]
  rw [e] at K
  exact K
theorem ref_lost (h : Both w z0 base b ob p C n nJ M M ks oks rs) (hn : n ≤ 1048577) (hJ : nJ ≤ 1048577) :
    Calls Try.prog 20 #[.pointer (some ⟨p.b, 0, none⟩)] w fun e w' => e = .returned (.int .i64 (lostM M)) ∧ Fr (fun _ => False) w w' := by
  have hl : ∀ k ∈ rs, 0 ≤ k.r.lost ∧ k.r.lost ≤ 1099511627776 := fun k hk => by
    obtain ⟨j, hj, rfl⟩ := List.getElem_of_mem hk
    have hj' : j < ks.length := by have := h.h4; have := h.jm.h4; omega
    have e : rs[j].r = ks[j].r := by
      have e1 : rs[j].m = ks[j].m := by rw [h.jeq j hj, h.keq j hj']
      exact congrArg Km.r e1
    rw [e]
    have := h.lost _ (List.getElem_mem hj')
    omega
  have K := jlost_any h.jm (by omega) hl
  have e : lostR rs = lostM M := by
    have k := h.jeq
    obtain ⟨k0, k1, k2, k3, rfl⟩ := four_of h.jm.h4
    unfold lostR lostM
    rw [← k 0 (by simp), ← k 1 (by simp), ← k 2 (by simp), ← k 3 (by simp)]
    simp [Kr.m]
  rw [e] at K
  exact K.mono fun e w' ⟨he, hw⟩ => ⟨he, hw ▸ Fr.refl _ _⟩
theorem other_lost (h : Both w z0 base b ob p C n nJ M M' ks oks rs) :
    Calls Try.prog 19 #[.pointer (some ⟨ob, 0, none⟩)] w fun e w' => e = .returned (.int .i64 0) ∧ Fr (fun _ => False) w w' := by
  have K := lost_any h.om h.o4 fun k hk => by have := h.olost k hk; omega
  have e : lostL oks = 0 := by
    have k := h.olost
    obtain ⟨k0, k1, k2, k3, rfl⟩ := four_of h.o4
    unfold lostL
    simp [k k0, k k1, k k2, k k3]
  rw [e] at K
  exact K
end
end Go.Proofs.Ytfmhfngilimhjaa.Im

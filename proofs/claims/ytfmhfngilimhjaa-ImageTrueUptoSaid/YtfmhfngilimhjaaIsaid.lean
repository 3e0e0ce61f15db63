/- ImageTrue: what each controller was heard to say was told by one of the texts that came (plain). -/
import Derived.Test.YtfmhfngilimhjaaIopen
import Derived.Test.YtfmhfngilimhjaaImp
import Derived.Test.YtfmhfngilimhjaaImx
namespace Go.Proofs.Ytfmhfngilimhjaa.Im
open Go.RowKit Li

/-- this text tells what controller j is known to say -/
structure SaidBy (C : Te.Cf) (j : Nat) (m : Km) (x : Cw) : Prop where
  oc : x.oc = (j : Int)
  e : (readL (bytesOf x.x)).e = 0
  s : (readL (bytesOf x.x)).s = m.z
  st : Te.rstL (Te.shL C (j : Nat)).hs (readL (bytesOf x.x)).x = (m.s, 0)
/-- all that is known was told by one of the first n texts -/
def Hist (C : Te.Cf) (ks : List Kc) (l : List Cw) (n : Nat) : Prop := ∀ j (hj : j < ks.length), ks[j].z ≠ -1 → ∃ i, i < n ∧ ∃ hi : i < l.length, SaidBy C j ks[j].m l[i]
theorem Hist.le {C : Te.Cf} {ks : List Kc} {l : List Cw} {n n' : Nat} (h : Hist C ks l n) (hn : n ≤ n') : Hist C ks l n' := fun j hj hz => by
  obtain ⟨i, h1, h2⟩ := h j hj hz
  exact ⟨i, by omega, h2⟩
theorem Hist.hear {C : Te.Cf} {ks : List Kc} {l : List Cw} {n : Nat} (h : Hist C ks l n) (hn : n < l.length) {j : Nat} (hj : j < ks.length) (hoc : l[n].oc = (j : Int)) (hf : Fit C j ks[j]) {k : Kc} (now : Int) (hm : k.m = (ks[j].m.hear ks[j].h.st.hs now (readL (bytesOf l[n].x))).1) : Hist C (ks.set j k) l (n + 1) := fun j' hj' hz => by
  by_cases e : j = j'
  · subst e
    rw [List.getElem_set_self] at hz ⊢
    obtain ⟨_, c⟩ := hear_cases ks[j].m ks[j].h.st.hs now (readL (bytesOf l[n].x))
    have e1 : k.z = (ks[j].m.hear ks[j].h.st.hs now (readL (bytesOf l[n].x))).1.z := congrArg Km.z hm
    rcases c with ⟨_, c1, c2⟩ | ⟨_, c0, c1, c2, c3⟩
    · have hz0 : ks[j].z ≠ -1 := fun e0 => hz (by rw [e1, c2]; exact e0)
      obtain ⟨i, h1, hi, h2⟩ := h j hj hz0
      refine ⟨i, by omega, hi, h2.oc, h2.e, ?_, ?_⟩
      · rw [h2.s, hm, c2]
      · rw [h2.st, hm, c1]
    · refine ⟨n, by omega, hn, hoc, (take_fine c0).1, ?_, ?_⟩
      · rw [hm, c3]
      · rw [hm, c2, ← hf.h]
        exact Prod.ext rfl c1
  · rw [List.getElem_set_ne e] at hz ⊢
    obtain ⟨i, h1, h2⟩ := h j' (by rw [List.length_set] at hj'; exact hj') hz
    exact ⟨i, by omega, h2⟩
theorem Hist.new {C : Te.Cf} {ks : List Kc} (h : ∀ k ∈ ks, k.z = -1) (l : List Cw) (n : Nat) : Hist C ks l n := fun _ hj hz => absurd (h _ (List.getElem_mem hj)) hz

/-- at element i of a row of looks: nothing valid, or told in one of the first n texts -/
theorem occ_cases {C : Te.Cf} {ks : List Kc} {l : List Cw} {n : Nat} (hf : ∀ j (hj : j < ks.length), Fit C j ks[j]) (hh : Hist C ks l n) (now : Int) {i : Nat} (hi : i < C.l.length) :
    ((vOcc C now ks)[i]? = some ⟨1, -1, false⟩ ∧ (vPos C now ks)[i]? = some ⟨0, -1, false⟩) ∨
    ∃ (v z : Int) (j p i0 : Nat) (hi0 : i0 < l.length), (vOcc C now ks)[i]? = some ⟨v, z, true⟩ ∧ z ≤ now ∧ now - z ≤ C.t.age ∧ i0 < n ∧ C.l[i].oc = (j : Int) ∧ l[i0].oc = (j : Int) ∧
      (readL (bytesOf l[i0].x)).e = 0 ∧ (readL (bytesOf l[i0].x)).s = z ∧ (Te.rstL (Te.shL C (j : Nat)).hs (readL (bytesOf l[i0].x)).x).2 = 0 ∧
      (Te.idx (Te.inB (j : Nat)) 0 C.l)[p]? = some (i : Int) ∧ (Te.rstL (Te.shL C (j : Nat)).hs (readL (bytesOf l[i0].x)).x).1.occ[p]? = some v := by
  by_cases hq : ∃ j, ∃ hj : j < ks.length, C.l[i].oc = (j : Int) ∧ ks[j].m.fresh now C.t.age = true
  · obtain ⟨j, hj, hoc, hfr⟩ := hq
    have hz := fresh_z hfr
    obtain ⟨i0, h0, hi0, hs⟩ := hh j hj hz.1
    have hmem := (mem_occ (j := j) hi).2 hoc
    rw [← (hf j hj).occ] at hmem
    obtain ⟨p, hp, hpe⟩ := List.getElem_of_mem hmem
    have hv : p < ks[j].s.occ.l.length := by
      rw [(hf j hj).socc hz.1]
      exact hp
    refine .inr ⟨_, _, j, p, i0, hi0, occ_told hf now hi hj hfr hp hv hpe, hz.2.1, hz.2.2, h0, hoc, hs.oc, hs.e, hs.s, by rw [hs.st], ?_, ?_⟩
    · rw [← (hf j hj).occ, List.getElem?_eq_getElem hp, hpe]
    · rw [hs.st]
      show ks[j].s.occ.l[p]? = _
      rw [List.getElem?_eq_getElem hv]
  · have hs : ∀ j (hj : j < ks.length), C.l[i].oc = (j : Int) → ks[j].m.fresh now C.t.age = false := fun j hj hoc => by
      rw [Bool.eq_false_iff]
      exact fun e => hq ⟨j, hj, hoc, e⟩
    exact .inl ⟨occ_silent hf now hi hs, pos_silent hf now hi hs⟩
end Go.Proofs.Ytfmhfngilimhjaa.Im

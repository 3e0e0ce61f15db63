/- What a view says of an element, as plain data. -/
import Derived.Test.YtfmhfngilimhjaaImx
namespace Go.Proofs.Ytfmhfngilimhjaa.Im
open Go.RowKit Li

theorem putL_miss (z : Int) (i : Nat) : ∀ (es vs : List Int) (L : List Lk), (∀ e ∈ es, 0 ≤ e) → ((i : Nat) : Int) ∉ es → (putL z L es vs)[i]? = L[i]?
  | [], _, _, _, _ => rfl
  | _ :: _, [], _, _, _ => rfl
  | e :: es, v :: vs, L, h0, h => by
    show (putL z (L.set e.toNat _) es vs)[i]? = _
    have he := h0 e (by simp)
    rw [putL_miss z i es vs _ (fun x hx => h0 x (by simp [hx])) fun hx => h (by simp [hx]), List.getElem?_set_ne]
    intro c
    apply h
    have : e = (i : Int) := by omega
    simp [this]
theorem putL_hit (z : Int) (i : Nat) : ∀ (es vs : List Int) (L : List Lk) (p : Nat), (∀ e ∈ es, 0 ≤ e) → es.Nodup → (hp : p < es.length) → (hv : p < vs.length) → es[p] = (i : Int) → i < L.length → (putL z L es vs)[i]? = some ⟨vs[p], z, true⟩
  | e :: es, v :: vs, L, 0, h0, hn, _, _, he, hi => by
    show (putL z (L.set e.toNat _) es vs)[i]? = _
    have e1 : e = (i : Int) := he
    rw [putL_miss z i es vs _ (fun x hx => h0 x (by simp [hx])) (by rw [← e1]; exact (List.nodup_cons.1 hn).1), e1, Int.toNat_natCast, List.getElem?_set_self hi]
    rfl
  | e :: es, v :: vs, L, p + 1, h0, hn, hp, hv, he, hi => by
    show (putL z (L.set e.toNat _) es vs)[i]? = _
    rw [putL_hit z i es vs _ p (fun x hx => h0 x (by simp [hx])) (List.nodup_cons.1 hn).2 (by simpa using hp) (by simpa using hv) (by simpa using he) (by rw [List.length_set]; exact hi)]
    rfl
  | [], _, _, p, _, _, hp, _, _, _ => absurd hp (Nat.not_lt_zero p)
  | _ :: _, [], _, p, _, _, _, hv, _, _ => absurd hv (Nat.not_lt_zero p)
theorem viewK_miss (now age : Int) (h s : Kc → List Int) (i : Nat) : ∀ (ks : List Kc) (L : List Lk), (∀ k ∈ ks, ∀ e ∈ h k, 0 ≤ e) → (∀ k ∈ ks, k.m.fresh now age = true → ((i : Nat) : Int) ∉ h k) → (viewK now age h s ks L)[i]? = L[i]?
  | [], _, _, _ => rfl
  | k :: ks, L, h0, hm => by
    show (viewK now age h s ks _)[i]? = _
    rw [viewK_miss now age h s i ks _ (fun x hx => h0 x (by simp [hx])) fun x hx => hm x (by simp [hx])]
    split
    · rename_i c
      exact putL_miss _ i _ _ _ (h0 k (by simp)) (hm k (by simp) c)
    · rfl
theorem viewK_hit (now age : Int) (h s : Kc → List Int) (i : Nat) : ∀ (ks : List Kc) (L : List Lk) (j p : Nat) (hj : j < ks.length), (∀ k ∈ ks, ∀ e ∈ h k, 0 ≤ e) → ks[j].m.fresh now age = true → (h ks[j]).Nodup → (hp : p < (h ks[j]).length) → (hv : p < (s ks[j]).length) → (h ks[j])[p] = (i : Int) →
    (∀ j' (hj' : j' < ks.length), j' ≠ j → ((i : Nat) : Int) ∉ h ks[j']) → i < L.length → (viewK now age h s ks L)[i]? = some ⟨(s ks[j])[p], ks[j].z, true⟩
  | k :: ks, L, 0, p, _, h0, hf, hn, hp, hv, he, ho, hi => by
    show (viewK now age h s ks _)[i]? = _
    rw [viewK_miss now age h s i ks _ (fun x hx => h0 x (by simp [hx])) (fun x hx _ => by
      obtain ⟨m, hm, rfl⟩ := List.getElem_of_mem hx
      exact ho (m + 1) (by simpa using hm) (by omega)), if_pos (show k.m.fresh now age = true from hf)]
    exact putL_hit _ i _ _ _ p (h0 k (by simp)) hn hp hv he hi
  | k :: ks, L, j + 1, p, hj, h0, hf, hn, hp, hv, he, ho, hi => by
    show (viewK now age h s ks _)[i]? = _
    exact viewK_hit now age h s i ks _ j p (by simpa using hj) (fun x hx => h0 x (by simp [hx])) hf hn hp hv he (fun j' hj' hne => ho (j' + 1) (by simpa using hj') (by omega)) (by split <;> simp [putL_length, hi])
theorem idx_ge {α : Type} (f : α → Bool) (l : List α) : ∀ e ∈ Te.idx f 0 l, 0 ≤ e := fun e he => (inr_idx f l e he).1
theorem Fit.occ {C : Te.Cf} {j : Nat} {k : Kc} (h : Fit C j k) : k.h.occ.l = Te.idx (Te.inB (j : Nat)) 0 C.l := congrArg Te.St.occ h.h
theorem Fit.pos {C : Te.Cf} {j : Nat} {k : Kc} (h : Fit C j k) : k.h.pos.l = Te.idx (Te.ptB (j : Nat)) 0 C.l := congrArg Te.St.pos h.h
theorem Fit.socc {C : Te.Cf} {j : Nat} {k : Kc} (h : Fit C j k) (hz : k.z ≠ -1) : k.s.occ.l.length = k.h.occ.l.length := congrArg Te.Hs.s (h.s hz)
theorem mem_occ {C : Te.Cf} {j i : Nat} (hi : i < C.l.length) : ((i : Nat) : Int) ∈ Te.idx (Te.inB (j : Nat)) 0 C.l ↔ C.l[i].oc = (j : Int) := by
  rw [Te.idx_mem]
  constructor
  · rintro ⟨k, hk, e, hf⟩
    have : i = k := by omega
    subst this
    simpa [Te.inB] using hf
  · intro h
    exact ⟨i, hi, by simp, by simp [Te.inB, h]⟩
theorem mem_pos {C : Te.Cf} {j i : Nat} (hi : i < C.l.length) (h : ((i : Nat) : Int) ∈ Te.idx (Te.ptB (j : Nat)) 0 C.l) : C.l[i].oc = (j : Int) := by
  rw [Te.idx_mem] at h
  obtain ⟨k, hk, e, hf⟩ := h
  have : i = k := by omega
  subst this
  simp [Te.ptB] at hf
  exact hf.1
/-- a look at a section: its controller is silent -/
theorem occ_silent {C : Te.Cf} {ks : List Kc} (hf : ∀ j (hj : j < ks.length), Fit C j ks[j]) (now : Int) {i : Nat} (hi : i < C.l.length) (hs : ∀ j (hj : j < ks.length), C.l[i].oc = (j : Int) → ks[j].m.fresh now C.t.age = false) : (vOcc C now ks)[i]? = some ⟨1, -1, false⟩ := by
  rw [viewK_miss]
  · unfold worstL
    rw [List.getElem?_replicate, if_pos hi]
  · intro k hk e he
    obtain ⟨j, hj, rfl⟩ := List.getElem_of_mem hk
    rw [(hf j hj).occ] at he
    exact idx_ge _ _ e he
  · intro k hk hfr hm
    obtain ⟨j, hj, rfl⟩ := List.getElem_of_mem hk
    rw [(hf j hj).occ, mem_occ hi] at hm
    rw [hs j hj hm] at hfr
    cases hfr
theorem pos_silent {C : Te.Cf} {ks : List Kc} (hf : ∀ j (hj : j < ks.length), Fit C j ks[j]) (now : Int) {i : Nat} (hi : i < C.l.length) (hs : ∀ j (hj : j < ks.length), C.l[i].oc = (j : Int) → ks[j].m.fresh now C.t.age = false) : (vPos C now ks)[i]? = some ⟨0, -1, false⟩ := by
  rw [viewK_miss]
  · unfold worstL
    rw [List.getElem?_replicate, if_pos hi]
  · intro k hk e he
    obtain ⟨j, hj, rfl⟩ := List.getElem_of_mem hk
    rw [(hf j hj).pos] at he
    exact idx_ge _ _ e he
  · intro k hk hfr hm
    obtain ⟨j, hj, rfl⟩ := List.getElem_of_mem hk
    rw [(hf j hj).pos] at hm
    rw [hs j hj (mem_pos hi hm)] at hfr
    cases hfr
/-- a look at a section: its controller said something that is fresh -/
theorem fresh_z {k : Km} {now age : Int} (h : k.fresh now age = true) : k.z ≠ -1 ∧ k.z ≤ now ∧ now - k.z ≤ age := by
  simpa [Km.fresh] using h
theorem occ_told {C : Te.Cf} {ks : List Kc} (hf : ∀ j (hj : j < ks.length), Fit C j ks[j]) (now : Int) {i j p : Nat} (hi : i < C.l.length) (hj : j < ks.length) (hfr : ks[j].m.fresh now C.t.age = true) (hp : p < ks[j].h.occ.l.length) (hv : p < ks[j].s.occ.l.length) (he : ks[j].h.occ.l[p] = (i : Int)) :
    (vOcc C now ks)[i]? = some ⟨ks[j].s.occ.l[p], ks[j].z, true⟩ := by
  have hmem : ((i : Nat) : Int) ∈ ks[j].h.occ.l := he ▸ List.getElem_mem hp
  rw [(hf j hj).occ, mem_occ hi] at hmem
  refine viewK_hit now C.t.age (fun k => k.h.occ.l) (fun k => k.s.occ.l) i ks _ j p hj (fun k hk e he => ?_) hfr ?_ hp hv he (fun j' hj' hne hm => ?_) (by rw [worstL_length]; exact hi)
  · obtain ⟨m, hm, rfl⟩ := List.getElem_of_mem hk
    simp only [(hf m hm).occ] at he
    exact idx_ge _ _ e he
  · simp only [(hf j hj).occ]
    exact Te.idx_nodup _ _ _
  · simp only [(hf j' hj').occ] at hm
    rw [mem_occ hi, hmem] at hm
    omega
end Go.Proofs.Ytfmhfngilimhjaa.Im

/- What the program's View shows is what the document's shows. -/
import Derived.Test.YtfmhfngilimhjaaJview
import Derived.Test.YtfmhfngilimhjaaImp
namespace Go.Proofs.Ytfmhfngilimhjaa.Im
open Go.RowKit Li

theorem atL_none {n : Int} : ∀ {l : List Int} {k : Nat}, n ∉ l → atL n l k = -1
  | [], _, _ => rfl
  | x :: l, k, h => by
    rw [atL, if_neg (fun e => h (by simp [e]))]
    exact atL_none (fun e => h (by simp [e]))
theorem atL_at {n : Int} : ∀ {l : List Int} {k p : Nat}, l.Nodup → (hp : p < l.length) → l[p] = n → atL n l k = ((k + p : Nat) : Int)
  | x :: l, k, 0, _, _, he => by
    rw [atL, if_pos (by simpa using he)]
    rfl
  | x :: l, k, p + 1, hn, hp, he => by
    have hp' : p < l.length := by simpa using hp
    have he' : l[p] = n := by simpa using he
    rw [List.nodup_cons] at hn
    rw [atL, if_neg (fun e => hn.1 (by rw [e, ← he']; exact List.getElem_mem hp')), atL_at hn.2 hp' he']
    congr 1
    omega
theorem lookF_worst {ks : List Kr} {age now oc i : Int} {l : List Int} {worst : Int} (h : ¬ (0 ≤ i ∧ i < (l.length : Int) ∧ alF ks age now oc = true)) : lookF ks age now oc i l worst = ⟨worst, -1, false⟩ := if_neg h
theorem view_row {C : Te.Cf} {ks : List Kr} {ks' : List Kc} (h4 : ks.length = 4) (hl : ks'.length = 4) (hm : ∀ j (hj : j < ks'.length) (h : j < ks.length), ks[j].m = ks'[j].m) (fit : ∀ j (hj : j < ks'.length), Fit C j ks'[j]) (now : Int)
    (sel : Te.St → List Int) (h s : Kc → List Int) (hh : ∀ k, h k = sel k.h.st) (hs : ∀ k, s k = sel k.s.st) (hge : ∀ k ∈ ks', ∀ e ∈ h k, 0 ≤ e) (hnd : ∀ k ∈ ks', (h k).Nodup) (hlen : ∀ j (hj : j < ks'.length), ks'[j].z ≠ -1 → (s ks'[j]).length = (h ks'[j]).length)
    (hsel : sel ⟨[], [], [], []⟩ = []) {n i : Nat} {worst : Int} (hi : i < n) (oc : Int) (hown : ∀ j (hj : j < ks'.length), ((i : Nat) : Int) ∈ h ks'[j] → oc = (j : Int)) :
    (viewK now C.t.age h s ks' (worstL n worst))[i]? = some (lookF ks C.t.age now oc (atL ((i : Nat) : Int) (sel (hF C oc)) 0) (sel (sF ks oc)) worst) := by
  have miss : (∀ k ∈ ks', k.m.fresh now C.t.age = true → ((i : Nat) : Int) ∉ h k) → (viewK now C.t.age h s ks' (worstL n worst))[i]? = some ⟨worst, -1, false⟩ := fun hk => by
    rw [viewK_miss now C.t.age h s i ks' _ hge hk]
    unfold worstL
    rw [List.getElem?_replicate, if_pos hi]
  have other : ∀ j (hj : j < ks'.length), oc ≠ (j : Int) → ((i : Nat) : Int) ∉ h ks'[j] := fun j hj hne hc => hne (hown j hj hc)
  by_cases ho : 0 ≤ oc ∧ oc < 4
  · obtain ⟨j, rfl⟩ : ∃ j : Nat, oc = (j : Int) := ⟨oc.toNat, by omega⟩
    have hj' : j < ks'.length := by omega
    have hj : j < ks.length := by omega
    have eh : hF C (j : Int) = ks'[j].h.st := by rw [(fit j hj').h]; exact if_pos ho
    have em := hm j hj' hj
    have es : sF ks (j : Int) = ks'[j].s.st := by
      unfold sF
      rw [if_pos ho.1, Int.toNat_natCast, List.getElem?_eq_getElem hj]
      exact congrArg Km.s em
    have ea : alF ks C.t.age now (j : Int) = ks'[j].m.fresh now C.t.age := by
      unfold alF
      rw [if_pos ho.1, Int.toNat_natCast, List.getElem?_eq_getElem hj]
      show ks[j].m.fresh now C.t.age = _
      rw [em]
    have ez : zF ks (j : Int) = ks'[j].z := by
      unfold zF
      rw [Int.toNat_natCast, List.getElem?_eq_getElem hj]
      exact congrArg Km.z em
    rw [eh, es, ← hh, ← hs]
    by_cases hin : ((i : Nat) : Int) ∈ h ks'[j]
    · by_cases hf : ks'[j].m.fresh now C.t.age = true
      · obtain ⟨q, hq, hqe⟩ := List.getElem_of_mem hin
        have hv : q < (s ks'[j]).length := by rw [hlen j hj' (fresh_z hf).1]; exact hq
        rw [viewK_hit now C.t.age h s i ks' _ j q hj' hge hf (hnd _ (List.getElem_mem hj')) hq hv hqe (fun j' hj'' hne => other j' hj'' (fun e => hne (by omega))) (by rw [worstL_length]; exact hi)]
        rw [atL_at (hnd _ (List.getElem_mem hj')) hq hqe, Nat.zero_add]
        unfold lookF
        rw [if_pos ⟨by omega, by omega, by rw [ea]; exact hf⟩, ez, Int.toNat_natCast, List.getD_eq_getElem?_getD, List.getElem?_eq_getElem hv]
        rfl
      · rw [miss fun k hk hkf hc => by
          obtain ⟨j', hj'', rfl⟩ := List.getElem_of_mem hk
          have e := hown j' hj'' hc
          have e2 : j = j' := by omega
          subst e2
          exact hf hkf, lookF_worst (by rw [ea]; exact fun c => hf c.2.2)]
    · rw [miss fun k hk hkf hc => by
          obtain ⟨j', hj'', rfl⟩ := List.getElem_of_mem hk
          have e := hown j' hj'' hc
          have e2 : j = j' := by omega
          subst e2
          exact hin hc, atL_none hin, lookF_worst (by omega)]
  · have eh : hF C oc = ⟨[], [], [], []⟩ := if_neg ho
    rw [eh, hsel, miss fun k hk hkf hc => by
          obtain ⟨j', hj'', rfl⟩ := List.getElem_of_mem hk
          have e := hown j' hj'' hc
          exact ho (by omega), atL_none (by simp), lookF_worst (by omega)]
theorem rows_eq {f : Nat → Lk} {n : Nat} {L : List Lk} (hl : L.length = n) (h : ∀ i, i < n → L[i]? = some (f i)) : rows f n = L := by
  apply List.ext_getElem?
  intro i
  by_cases hi : i < n
  · rw [h i hi]
    unfold rows
    rw [List.getElem?_map, List.getElem?_range hi]
    rfl
  · rw [List.getElem?_eq_none (by rw [rows_length]; omega), List.getElem?_eq_none (by omega)]
theorem mem_all {ks' : List Kc} {P : Kc → Prop} (h : ∀ j (hj : j < ks'.length), P ks'[j]) : ∀ k ∈ ks', P k := fun k hk => by
  obtain ⟨j, hj, rfl⟩ := List.getElem_of_mem hk
  exact h j hj
theorem has_oc {C : Te.Cf} {j : Nat} {s : Int} (hj : Te.hasB C.l (j : Int) s = true) : ocF C.l s = (j : Int) := by
  unfold Te.hasB at hj
  unfold ocF
  rw [Bool.and_eq_true, decide_eq_true_eq] at hj
  rw [if_pos hj.1]
  cases e : C.l[s.toNat]? with
  | none => rw [e] at hj; simp at hj
  | some x => rw [e] at hj; simpa using hj.2
section
variable {C : Te.Cf} {ks : List Kr} {ks' : List Kc} (h4 : ks.length = 4) (hl : ks'.length = 4) (hm : ∀ j (hj : j < ks'.length) (h : j < ks.length), ks[j].m = ks'[j].m) (fit : ∀ j (hj : j < ks'.length), Fit C j ks'[j]) (now : Int)
include h4 hl hm fit
theorem occ_eq : rows (rocc C ks now) C.l.length = vOcc C now ks' := rows_eq (by rw [viewK_length, worstL_length]) fun i hi => by
  have e : C.l.getD i default = C.l[i] := by rw [List.getD_eq_getElem?_getD, List.getElem?_eq_getElem hi]; rfl
  unfold rocc
  rw [e]
  have fh : ∀ j (hj : j < ks'.length), ks'[j].h.occ.l = Te.idx (Te.inB (j : Nat)) 0 C.l := fun j hj => congrArg Te.St.occ (fit j hj).h
  refine view_row h4 hl hm fit now Te.St.occ (fun k => k.h.occ.l) (fun k => k.s.occ.l) (fun _ => rfl) (fun _ => rfl) (mem_all fun j hj => by rw [fh j hj]; exact idx_ge _ _) (mem_all fun j hj => by rw [fh j hj]; exact Te.idx_nodup _ _ _) (fun j hj hz => congrArg Te.Hs.s ((fit j hj).s hz)) rfl hi _ fun j hj hc => ?_
  rw [fh j hj] at hc
  exact (mem_occ hi).1 hc
theorem pos_eq : rows (rpos C ks now) C.l.length = vPos C now ks' := rows_eq (by rw [viewK_length, worstL_length]) fun i hi => by
  have e : C.l.getD i default = C.l[i] := by rw [List.getD_eq_getElem?_getD, List.getElem?_eq_getElem hi]; rfl
  unfold rpos
  rw [e]
  have fh : ∀ j (hj : j < ks'.length), ks'[j].h.pos.l = Te.idx (Te.ptB (j : Nat)) 0 C.l := fun j hj => congrArg Te.St.pos (fit j hj).h
  refine view_row h4 hl hm fit now Te.St.pos (fun k => k.h.pos.l) (fun k => k.s.pos.l) (fun _ => rfl) (fun _ => rfl) (mem_all fun j hj => by rw [fh j hj]; exact idx_ge _ _) (mem_all fun j hj => by rw [fh j hj]; exact Te.idx_nodup _ _ _) (fun j hj hz => congrArg Te.Hs.p ((fit j hj).s hz)) rfl hi _ fun j hj hc => ?_
  rw [fh j hj] at hc
  exact mem_pos hi hc
theorem shut_eq : rows (rshut C ks now) C.cr.length = vShut C now ks' := rows_eq (by rw [viewK_length, worstL_length]) fun i hi => by
  have e : C.cr.getD i 0 = C.cr[i] := by rw [List.getD_eq_getElem?_getD, List.getElem?_eq_getElem hi]; rfl
  unfold rshut
  rw [e]
  have fh : ∀ j (hj : j < ks'.length), ks'[j].h.shut.l = Te.idx (Te.hasB C.l (j : Nat)) 0 C.cr := fun j hj => congrArg Te.St.shut (fit j hj).h
  refine view_row h4 hl hm fit now Te.St.shut (fun k => k.h.shut.l) (fun k => k.s.shut.l) (fun _ => rfl) (fun _ => rfl) (mem_all fun j hj => by rw [fh j hj]; exact idx_ge _ _) (mem_all fun j hj => by rw [fh j hj]; exact Te.idx_nodup _ _ _) (fun j hj hz => congrArg Te.Hs.c ((fit j hj).s hz)) rfl hi _ fun j hj hc => ?_
  rw [fh j hj, Te.idx_mem] at hc
  obtain ⟨k, hk, ek, hb⟩ := hc
  have : i = k := by omega
  subst this
  exact has_oc hb
theorem lamp_eq : rows (rlamp C ks now) C.sg.length = vLamp C now ks' := rows_eq (by rw [viewK_length, worstL_length]) fun i hi => by
  have e : C.sg.getD i default = C.sg[i] := by rw [List.getD_eq_getElem?_getD, List.getElem?_eq_getElem hi]; rfl
  unfold rlamp
  rw [e]
  have fh : ∀ j (hj : j < ks'.length), ks'[j].h.lamp.l = Te.idx (Te.sgB C.l (j : Nat)) 0 C.sg := fun j hj => congrArg Te.St.lamp (fit j hj).h
  refine view_row h4 hl hm fit now Te.St.lamp (fun k => k.h.lamp.l) (fun k => k.s.lamp.l) (fun _ => rfl) (fun _ => rfl) (mem_all fun j hj => by rw [fh j hj]; exact idx_ge _ _) (mem_all fun j hj => by rw [fh j hj]; exact Te.idx_nodup _ _ _) (fun j hj hz => congrArg Te.Hs.g ((fit j hj).s hz)) rfl hi _ fun j hj hc => ?_
  rw [fh j hj, Te.idx_mem] at hc
  obtain ⟨k, hk, ek, hb⟩ := hc
  have : i = k := by omega
  subst this
  exact has_oc hb
end
end Go.Proofs.Ytfmhfngilimhjaa.Im

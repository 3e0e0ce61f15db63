/- Plain: what all pages of a journal hold, and what each of its acts leaves of it, wherever the power goes. Nothing here speaks of the program. -/
import Derived.Test.YtdoljggaoidljaaGreatPage
namespace Go.Proofs.YtdoljggaoidljaaGreat.Jo

/-- the records of the first so many sheets -/
def upto (L : Nat → Sh) : Nat → List Rc
  | 0 => []
  | i + 1 => upto L i ++ (L i).recs
/-- the last safety state of some records, behind another one -/
def lastSafe (o : Option (List UInt8)) (l : List Rc) : Option (List UInt8) := l.foldl (fun o r => if r.kind = 1 then some r.text else o) o
theorem lastSafe_append (o : Option (List UInt8)) (l k : List Rc) : lastSafe o (l ++ k) = lastSafe (lastSafe o l) k := by unfold lastSafe; rw [List.foldl_append]

/-- There are c sheets; those that may still be read lie on their pages; all other pages have none. -/
structure St (pg : Nat → Nat → UInt8) (all : List Rc) (c : Nat) (L : Nat → Sh) : Prop where
  nth : ∀ i, i < c → (L i).nth = i
  first : ∀ i, i < c → (L i).first = (upto L i).length + 1
  safe : ∀ i, i < c → (L i).safe = lastSafe none (upto L i)
  some' : ∀ i, i + 1 < c → (L i).recs ≠ []
  all : all = upto L c
  page : ∀ i, i < c → c ≤ i + 23 → ∃ tl, PageOf (pg (i % 24)) (L i) tl
  elder : ∀ i, i + 24 = c → (∃ tl, PageOf (pg (i % 24)) (L i) tl) ∨ (Garb (pg (i % 24)) ∧ (L (c - 1)).recs ≠ [])
  fresh : ∀ p, p < 24 → c ≤ p → Garb (pg p)

theorem upto_len (L : Nat → Sh) : ∀ i, (∀ j, j < i → (L j).recs ≠ []) → i ≤ (upto L i).length
  | 0, _ => Nat.zero_le _
  | i + 1, h => by
    have h1 := upto_len L i fun j hj => h j (by omega)
    have h2 : 0 < (L i).recs.length := List.length_pos_iff.2 (h i (by omega))
    show i + 1 ≤ (upto L i ++ (L i).recs).length
    rw [List.length_append]
    omega
theorem upto_congr {L K : Nat → Sh} : ∀ i, (∀ j, j < i → L j = K j) → upto L i = upto K i
  | 0, _ => rfl
  | i + 1, h => by
    show upto L i ++ (L i).recs = upto K i ++ (K i).recs
    rw [upto_congr i fun j hj => h j (by omega), h i (by omega)]
theorem upto_mono (L : Nat → Sh) (i : Nat) : ∀ k, (upto L i).length ≤ (upto L (i + k)).length
  | 0 => Nat.le_refl _
  | k + 1 => by
    have := upto_mono L i k
    show _ ≤ (upto L (i + k) ++ (L (i + k)).recs).length
    rw [List.length_append]
    omega
theorem st_new {pg : Nat → Nat → UInt8} (h : ∀ p, p < 24 → Garb (pg p)) (L : Nat → Sh) : St pg [] 0 L :=
  ⟨fun i hi => by omega, fun i hi => by omega, fun i hi => by omega, fun i hi => by omega, rfl, fun i hi => by omega, fun i hi => by omega, fun p hp _ => h p hp⟩
namespace St
variable {pg pg' : Nat → Nat → UInt8} {all : List Rc} {c : Nat} {L : Nat → Sh}
theorem count (h : St pg all c L) : c ≤ all.length + 1 := by
  rcases c with _ | c
  · omega
  · have h1 := upto_len L c fun j hj => h.some' j (by omega)
    have h2 := upto_mono L c 1
    rw [h.all]
    omega
/-- the last sheet, and its page -/
theorem last (h : St pg all c L) (hc : 0 < c) : ∃ tl, PageOf (pg ((c - 1) % 24)) (L (c - 1)) tl := h.page (c - 1) (by omega) (by omega)
theorem all_last (h : St pg all c L) (hc : 0 < c) : all = upto L (c - 1) ++ (L (c - 1)).recs := by
  obtain ⟨k, rfl⟩ : ∃ k, c = k + 1 := ⟨c - 1, by omega⟩
  exact h.all
/-- a record is burnt behind the last sheet, or the first bytes of it -/
theorem burn (h : St pg all c L) (hc : 0 < c) (h0 : PageOf (pg ((c - 1) % 24)) (L (c - 1)) []) {r : Rc} (hr : r.ok) (hl : (L (c - 1)).body.length + (fram (recB r)).length ≤ 4096) {d : Nat} (hd : d ≤ (fram (recB r)).length) :
    (d = (fram (recB r)).length ∧ ∃ K, St (layP pg ((c - 1) % 24) (L (c - 1)).body.length ((fram (recB r)).take d)) (all ++ [r]) c K ∧ K (c - 1) = (L (c - 1)).add r ∧ PageOf (layP pg ((c - 1) % 24) (L (c - 1)).body.length ((fram (recB r)).take d) ((c - 1) % 24)) (K (c - 1)) []) ∨
    (d < (fram (recB r)).length ∧ St (layP pg ((c - 1) % 24) (L (c - 1)).body.length ((fram (recB r)).take d)) all c L) := by
  have same : layP pg ((c - 1) % 24) (L (c - 1)).body.length ((fram (recB r)).take d) ((c - 1) % 24) = lay (pg ((c - 1) % 24)) (L (c - 1)).body.length ((fram (recB r)).take d) := layP_same _ _ _ _
  have other : ∀ q, q ≠ (c - 1) % 24 → layP pg ((c - 1) % 24) (L (c - 1)).body.length ((fram (recB r)).take d) q = pg q := fun q hq => layP_other _ hq _ _
  generalize layP pg ((c - 1) % 24) (L (c - 1)).body.length ((fram (recB r)).take d) = pg' at same other ⊢
  have far : ∀ i, i < c - 1 → c ≤ i + 24 → i % 24 ≠ (c - 1) % 24 := fun i h1 h2 => by omega
  rcases h0.burn hr hl hd with ⟨e, k⟩ | ⟨e, tl, k⟩
  · obtain ⟨K, hK, hK1⟩ : ∃ K : Nat → Sh, (∀ i, i < c - 1 → K i = L i) ∧ K (c - 1) = (L (c - 1)).add r := ⟨fun i => if i = c - 1 then (L (c - 1)).add r else L i, fun i hi => if_neg (by omega), if_pos rfl⟩
    refine .inl ⟨e, K, ?_, hK1, by rw [same, hK1]; exact k⟩
    have hu : ∀ i, i ≤ c - 1 → upto K i = upto L i := fun i hi => upto_congr i fun j hj => hK j (by omega)
    have hcase : ∀ i, i < c → i < c - 1 ∨ i = c - 1 := fun i hi => by omega
    refine ⟨fun i hi => ?_, fun i hi => ?_, fun i hi => ?_, fun i hi => ?_, ?_, fun i hi h2 => ?_, fun i hi => ?_, fun p hp h2 => ?_⟩
    · rcases hcase i hi with k | rfl
      · rw [hK i k]; exact h.nth i hi
      · rw [hK1]; exact h.nth _ hi
    · rw [hu i (by omega)]
      rcases hcase i hi with k | rfl
      · rw [hK i k]; exact h.first i hi
      · rw [hK1]; exact h.first _ hi
    · rw [hu i (by omega)]
      rcases hcase i hi with k | rfl
      · rw [hK i k]; exact h.safe i hi
      · rw [hK1]; exact h.safe _ hi
    · rw [hK i (by omega)]; exact h.some' i hi
    · obtain ⟨n, rfl⟩ : ∃ n, c = n + 1 := ⟨c - 1, by omega⟩
      show all ++ [r] = upto K n ++ (K n).recs
      rw [hu n (by omega), show K n = (L n).add r from hK1, h.all]
      show (upto L n ++ (L n).recs) ++ [r] = upto L n ++ ((L n).recs ++ [r])
      rw [List.append_assoc]
    · rcases hcase i hi with k2 | rfl
      · rw [hK i k2, other _ (far i k2 (by omega))]; exact h.page i hi h2
      · rw [hK1, same]; exact ⟨_, k⟩
    · rw [hK i (by omega), other _ (far i (by omega) (by omega)), hK1]
      rcases h.elder i hi with k2 | k2
      · exact .inl k2
      · exact .inr ⟨k2.1, fun e => by have e' : (L (c - 1)).recs ++ [r] = [] := e; simp at e'⟩
    · rw [other _ (by omega)]; exact h.fresh p hp h2
  · refine .inr ⟨e, h.nth, h.first, h.safe, h.some', h.all, fun i hi h2 => ?_, fun i hi => ?_, fun p hp h2 => ?_⟩
    · by_cases hi2 : i = c - 1
      · subst hi2; rw [same]; exact ⟨_, k⟩
      · rw [other _ (far i (by omega) (by omega))]; exact h.page i hi h2
    · rw [other _ (far i (by omega) (by omega))]; exact h.elder i hi
    · rw [other _ (by omega)]; exact h.fresh p hp h2
/-- the page that comes next is spoilt: nothing is lost -/
theorem next_garb (h : St pg all c L) (hc : c = 0 ∨ (L (c - 1)).recs ≠ []) (hg : Garb (pg' (c % 24))) (ho : ∀ q, q ≠ c % 24 → pg' q = pg q) : St pg' all c L := by
  refine ⟨h.nth, h.first, h.safe, h.some', h.all, fun i hi h2 => ?_, fun i hi => ?_, fun p hp h2 => ?_⟩
  · rw [ho _ (by omega)]; exact h.page i hi h2
  · refine .inr ⟨by rw [show i % 24 = c % 24 by omega]; exact hg, ?_⟩
    rcases hc with rfl | hc
    · omega
    · exact hc
  · by_cases e : p = c % 24
    · rw [e]; exact hg
    · rw [ho _ e]; exact h.fresh p hp h2
/-- a last sheet without a record is gone -/
theorem drop_garb (h : St pg all (c + 1) L) (h0 : (L c).recs = []) (hg : Garb (pg' (c % 24))) (ho : ∀ q, q ≠ c % 24 → pg' q = pg q) : St pg' all c L := by
  refine ⟨fun i hi => h.nth i (by omega), fun i hi => h.first i (by omega), fun i hi => h.safe i (by omega), fun i hi => h.some' i (by omega), ?_, fun i hi h2 => ?_, fun i hi => ?_, fun p hp h2 => ?_⟩
  · have := h.all
    show all = upto L c
    rw [this]
    show upto L c ++ (L c).recs = _
    rw [h0, List.append_nil]
  · by_cases e : c + 1 ≤ i + 23
    · rw [ho _ (by omega)]; exact h.page i (by omega) e
    · rw [ho _ (by omega)]
      rcases h.elder i (by omega) with k | k
      · exact k
      · exact absurd h0 k.2
  · refine .inr ⟨by rw [show i % 24 = c % 24 by omega]; exact hg, ?_⟩
    obtain ⟨n, rfl⟩ : ∃ n, c = n + 1 := ⟨c - 1, by omega⟩
    exact h.some' n (by omega)
  · by_cases e : p = c % 24
    · rw [e]; exact hg
    · rw [ho _ e]; exact h.fresh p hp (by omega)
/-- a head more -/
theorem head (h : St pg all c L) (hc : c = 0 ∨ (L (c - 1)).recs ≠ []) {s : Sh} (h1 : s.nth = c) (h2 : s.first = all.length + 1) (h3 : s.safe = lastSafe none all) (h4 : s.recs = []) (hp : PageOf (pg' (c % 24)) s []) (ho : ∀ q, q ≠ c % 24 → pg' q = pg q) :
    St pg' all (c + 1) (fun i => if i = c then s else L i) := by
  have hK : ∀ i, i < c → (fun i => if i = c then s else L i) i = L i := fun i hi => if_neg (by omega)
  have hK1 : (fun i => if i = c then s else L i) c = s := if_pos rfl
  generalize (fun i => if i = c then s else L i) = K at hK hK1 ⊢
  have hu : ∀ i, i ≤ c → upto K i = upto L i := fun i hi => upto_congr i fun j hj => hK j (by omega)
  have hcase : ∀ i, i < c + 1 → i < c ∨ i = c := fun i hi => by omega
  refine ⟨fun i hi => ?_, fun i hi => ?_, fun i hi => ?_, fun i hi => ?_, ?_, fun i hi k2 => ?_, fun i hi => ?_, fun p hp2 k2 => ?_⟩
  · rcases hcase i hi with k | rfl
    · rw [hK i k]; exact h.nth i k
    · rw [hK1]; exact h1
  · rw [hu i (by omega)]
    rcases hcase i hi with k | rfl
    · rw [hK i k]; exact h.first i k
    · rw [hK1, h2, ← h.all]
  · rw [hu i (by omega)]
    rcases hcase i hi with k | rfl
    · rw [hK i k]; exact h.safe i k
    · rw [hK1, h3, ← h.all]
  · rw [hK i (by omega)]
    by_cases e : i + 1 < c
    · exact h.some' i e
    · rcases hc with k | k
      · omega
      · rw [show i = c - 1 by omega]; exact k
  · show all = upto K c ++ (K c).recs
    rw [hu c (Nat.le_refl _), hK1, h4, List.append_nil]
    exact h.all
  · rcases hcase i hi with k | rfl
    · rw [hK i k, ho _ (by omega)]; exact h.page i k (by omega)
    · rw [hK1]; exact ⟨_, hp⟩
  · rw [hK i (by omega), ho _ (by omega)]; exact .inl (h.page i (by omega) (by omega))
  · rw [ho _ (by omega)]; exact h.fresh p hp2 (by omega)
end St
end Go.Proofs.YtdoljggaoidljaaGreat.Jo

/- Rows of the call's own whose elements take any number of cells: appending what is read (also as a step of a region that draws), writing several cells of one block, clearing, dropping the head. Nothing here speaks of one program. -/
import Derived.Test.YtmohefkingnknaaBase
import Derived.Maps.AppendAt
import Derived.Deep.RegionLaw
import Derived.Lib.SliceRun
namespace Go.Proofs.Ytmohefkingnknaa
open Go.RowKit

section
variable {w w1 : World} {base size n : Nat} {e : TypeId} {v : Value} {xs : List Value}
theorem wide_fr {S : Nat → Prop} (h : w.ownsRow base e size v n xs) (f : Fr S w w1) (hn : ∀ k, v.ownBlock = some k → ¬ S k) : w1.ownsRow base e size v n xs := by
  refine ⟨h.1, ?_⟩
  rcases h.2 with k | ⟨g, cap, cur, hv, hb, hg, r⟩
  · exact .inl k
  · refine .inr ⟨g, cap, cur, hv, hb, ?_, r⟩
    rw [f.block g (lt_of_block hg) (hn g (by rw [hv]; rfl))]
    exact hg
theorem wide_lt (h : w.ownsRow base e size v n xs) : ∀ k, v.ownBlock = some k → k < w.heap.size := fun k hk => (World.ownsRow.lt h k hk).2
theorem wide_is_ne {b : Nat} {t : TypeId} {cs : Array Value} (h : w.ownsRow base e size v n xs) (k : Is w b t cs) (ht : e ≠ t) : v.ownBlock ≠ some b := by
  intro ha
  rcases h.2 with ⟨hv, _⟩ | ⟨g, cap, cur, hv, _, hg, _⟩
  · rw [hv] at ha; cases ha
  · rw [hv] at ha
    have hgb : g = b := by simpa [Value.ownBlock] using ha
    subst hgb
    unfold Is at k
    rw [hg] at k
    injection k with k
    injection k with _ k
    exact ht k
theorem wide_ne {b2 n2 s2 : Nat} {e2 : TypeId} {v2 : Value} {xs2 : List Value} (h1 : w.ownsRow base e size v n xs) (h2 : w.ownsRow b2 e2 s2 v2 n2 xs2) (he : e ≠ e2) : ∀ k, v.ownBlock = some k → v2.ownBlock ≠ some k := by
  intro k k1 k2
  rcases h1.2 with ⟨hv, _⟩ | ⟨g1, c1, u1, hv1, _, hg1, _⟩
  · rw [hv] at k1; cases k1
  · rcases h2.2 with ⟨hv, _⟩ | ⟨g2, c2, u2, hv2, _, hg2, _⟩
    · rw [hv] at k2; cases k2
    · rw [hv1] at k1
      rw [hv2] at k2
      have e1 : g1 = k := by simpa [Value.ownBlock] using k1
      have e2 : g2 = k := by simpa [Value.ownBlock] using k2
      rw [e1] at hg1
      rw [e2, hg1] at hg2
      injection hg2 with h
      injection h with _ h
      exact he h
theorem wide_form (h : w.ownsRow base e size v n xs) : ∃ A c, v = .slice A n c ∧ n ≤ c ∧ c ≤ maxLen ∧ (0 < n → ∃ g, A = some ⟨g, 0, none⟩ ∧ g < w.heap.size) ∧ (A = none → n = 0 ∧ c = 0) := by
  rcases h.2 with ⟨hv, h0⟩ | ⟨g, cap, cur, hv, _, hg, hnc, hm, _⟩
  · exact ⟨none, 0, by rw [hv, h0], by omega, by simp [maxLen], fun h => by omega, fun _ => ⟨h0, rfl⟩⟩
  · exact ⟨_, _, hv, hnc, hm, fun _ => ⟨g, rfl, lt_of_block hg⟩, fun h => by cases h⟩
theorem wide_rd {A : Option Addr} {c : Nat} (h : w.ownsRow base e size (.slice A n c) n xs) : Rd w A xs := fun h0 => by
  rcases h.2 with ⟨_, k⟩ | ⟨g, cap, cur, hv, _, hg, _⟩
  · have := h.1
    rw [k, Nat.zero_mul] at this
    omega
  · have hA : A = some ⟨g, 0, none⟩ := by injection hv
    refine ⟨g, 0, hA, lt_of_block hg, fun j u hu => ?_⟩
    have k := World.ownsRow.cells h (g := g) (by rw [Row.own, hA]; rfl) j u hu
    have e : (⟨g, 0, none⟩ : Addr).add j = ⟨g, 0 + j, none⟩ := by unfold Addr.add; split <;> simp_all
    rw [e] at k
    exact k
end

theorem run_append_wide {P : Program} (w : World) (base : Nat) (t ty e : TypeId) (i : TypeInfo) (z : Value) (size bytes : Nat) (ht : P.underlying t = some (.slice e)) (hi : P.info? e = some i) (hz : i.zero = some z)
    (hsize : i.size = size) (hby : i.bytes = bytes) (hzs : z.cells.size = size) (hs0 : 0 < size) (v : Value) (n : Nat) (xs : List Value) (hown : w.ownsRow base e size v n xs)
    (A : Option Addr) (c m : Nat) (news : List Value) (hm : news.length = m * size) (hr : Rd w A news) (h1 : ∀ u ∈ news, u.oneCell' = true) (h63 : n + m ≤ maxLen) (hbytes : (n + m) * bytes ≤ 140737488355328) (hbase : base ≤ w.heap.size) :
    ∃ v' w', (Builtin.append_ #[t, t] ty #[v, .slice A m c]).run P w = .ok v' w' ∧ w'.ownsRow base e size v' (n + m) (xs ++ news) ∧ w.grownBy w' v.ownBlock ∧ (v'.ownBlock = v.ownBlock ∨ v'.ownBlock = some w.heap.size) := by
  have hcells : ∀ a, A = some a → ∀ j u, news[j]? = some u → w.cell? (a.add j) = some u := by
    intro a hA j u hu
    have hpos : 0 < news.length := by have := (List.getElem?_eq_some_iff.1 hu).1; omega
    obtain ⟨b, o, hA', _, hc⟩ := hr hpos
    have ha : a = ⟨b, o, none⟩ := by rw [hA] at hA'; injection hA'
    have hx := hc j u hu
    rw [ha]
    unfold Addr.add
    split
    · rename_i hj; subst hj; exact hx
    · exact hx
  rcases A with _ | a
  · have h0 : news.length = 0 := by
      rcases Nat.eq_zero_or_pos news.length with h | h
      · exact h
      · obtain ⟨_, _, hA, _⟩ := hr h
        cases hA
    have hn : news = [] := List.eq_nil_of_length_eq_zero h0
    subst hn
    have hm0 : m = 0 := by
      rcases Nat.eq_zero_or_pos m with h | h
      · exact h
      · have := Nat.mul_pos h hs0
        simp at hm
        omega
    subst hm0
    refine ⟨v, w, ?_, by simpa using hown, World.grownBy.refl w _, .inl rfl⟩
    rcases hown.2 with ⟨rfl, rfl⟩ | ⟨g, cap, cur, rfl, _, _, hnc, _⟩
    · simp [Builtin.append_, run_underlying ht, sizeOf, typeInfo, hi, Builtin.lenOf, Builtin.firstCells]
    · simp [Builtin.append_, run_underlying ht, sizeOf, typeInfo, hi, Builtin.lenOf, Builtin.firstCells, hnc, storeCells]
  · obtain ⟨v', w', hrun, h2, h3, _, h5⟩ := run_append_own_at (P := P) w base t ty e i z size bytes ht hi hz hsize hby hzs hs0 v n xs hown a m c news hm (hcells a rfl) h1 h63 hbytes hbase
    exact ⟨v', w', hrun, h2, h3, h5⟩

theorem wp_append_wide {P : Program} (w : World) {o : Oper} {a : Act} {K : Act → World → Prop} {Q : Exit → Act → World → Prop} (s x : Operand) (t : TypeId)
    (ho : o.op = .call { callee := .builtin .append, args := #[s, x], argTypes := #[t, t] })
    (base : Nat) (e : TypeId) (i : TypeInfo) (z : Value) (size bytes : Nat) (ht : P.underlying t = some (.slice e)) (hi : P.info? e = some i) (hz : i.zero = some z)
    (hsize : i.size = size) (hby : i.bytes = bytes) (hzs : z.cells.size = size) (hs0 : 0 < size) (v : Value) (n : Nat) (xs : List Value) (hs : a.eval s = v) (hown : w.ownsRow base e size v n xs)
    (A : Option Addr) (c m : Nat) (news : List Value) (hm : news.length = m * size) (hx : a.eval x = .slice A m c) (hr : Rd w A news) (h1 : ∀ u ∈ news, u.oneCell' = true) (h63 : n + m ≤ maxLen) (hbytes : (n + m) * bytes ≤ 140737488355328) (hbase : base ≤ w.heap.size)
    (h : ∀ v' w', w'.ownsRow base e size v' (n + m) (xs ++ news) → w.grownBy w' v.ownBlock → (v'.ownBlock = v.ownBlock ∨ v'.ownBlock = some w.heap.size) → K (a.put o.dst v') w') : o.wp P a w K Q := by
  obtain ⟨v', w', hrun, h2, h3, h4⟩ := run_append_wide (P := P) w base t o.type e i z size bytes ht hi hz hsize hby hzs hs0 v n xs hown A c m news hm hr h1 h63 hbytes hbase
  unfold Oper.wp execOp
  simp only [ho, resolve, invoke, builtin, Sem.run_bind, Sem.run_pure, Result.andThen_ok, List.map_toArray, List.map_cons, List.map_nil, hs, hx, hrun]
  exact h v' w' h2 h3 h4
theorem wpList_append_wide {P : Program} (w : World) {ops : Array Oper} {rest : List Oper} {o : Oper} {a : Act} {Q : Exit → Act → World → Prop} (hgd : o.guard = none) (s x : Operand) (t : TypeId)
    (ho : o.op = .call { callee := .builtin .append, args := #[s, x], argTypes := #[t, t] })
    (base : Nat) (e : TypeId) (i : TypeInfo) (z : Value) (size bytes : Nat) (ht : P.underlying t = some (.slice e)) (hi : P.info? e = some i) (hz : i.zero = some z)
    (hsize : i.size = size) (hby : i.bytes = bytes) (hzs : z.cells.size = size) (hs0 : 0 < size) (v : Value) (n : Nat) (xs : List Value) (hs : a.eval s = v) (hown : w.ownsRow base e size v n xs)
    (A : Option Addr) (c m : Nat) (news : List Value) (hm : news.length = m * size) (hx : a.eval x = .slice A m c) (hr : Rd w A news) (h1 : ∀ u ∈ news, u.oneCell' = true) (h63 : n + m ≤ maxLen) (hbytes : (n + m) * bytes ≤ 140737488355328) (hbase : base ≤ w.heap.size)
    (h : ∀ v' w', w'.ownsRow base e size v' (n + m) (xs ++ news) → w.grownBy w' v.ownBlock → (v'.ownBlock = v.ownBlock ∨ v'.ownBlock = some w.heap.size) → wpList P ops Q rest (a.put o.dst v') w') :
    wpList P ops Q (o :: rest) a w :=
  wpList_plain hgd fun _ hK => wp_append_wide w s x t ho base e i z size bytes ht hi hz hsize hby hzs hs0 v n xs hs hown A c m news hm hx hr h1 h63 hbytes hbase fun v' w' h2 h3 h4 => hK _ _ (h v' w' h2 h3 h4)
theorem step_append_wide {P : Program} (w : World) {ops : Array Oper} {o : Oper} {a : Act} {K : Act → World → Prop} {Q : Exit → Act → World → Prop} {E : Prop} (hgd : o.guard = none) (s x : Operand) (t : TypeId)
    (ho : o.op = .call { callee := .builtin .append, args := #[s, x], argTypes := #[t, t] })
    (base : Nat) (e : TypeId) (i : TypeInfo) (z : Value) (size bytes : Nat) (ht : P.underlying t = some (.slice e)) (hi : P.info? e = some i) (hz : i.zero = some z)
    (hsize : i.size = size) (hby : i.bytes = bytes) (hzs : z.cells.size = size) (hs0 : 0 < size) (v : Value) (n : Nat) (xs : List Value) (hs : a.eval s = v) (hown : w.ownsRow base e size v n xs)
    (A : Option Addr) (c m : Nat) (news : List Value) (hm : news.length = m * size) (hx : a.eval x = .slice A m c) (hr : Rd w A news) (h1 : ∀ u ∈ news, u.oneCell' = true) (h63 : n + m ≤ maxLen) (hbytes : (n + m) * bytes ≤ 140737488355328) (hbase : base ≤ w.heap.size)
    (h : ∀ v' w', w'.ownsRow base e size v' (n + m) (xs ++ news) → w.grownBy w' v.ownBlock → (v'.ownBlock = v.ownBlock ∨ v'.ownBlock = some w.heap.size) → K (a.put o.dst v') w') :
    if Region.wanted o (yielded ops a.tmps) = true then Oper.wp P o a w K Q else E := by
  have hw : Region.wanted o (yielded ops a.tmps) = true := by simp [Region.wanted, hgd]
  rw [if_pos hw]
  exact wp_append_wide w s x t ho base e i z size bytes ht hi hz hsize hby hzs hs0 v n xs hs hown A c m news hm hx hr h1 h63 hbytes hbase h

/-- A block's cells with those from o on set one by one. -/
def splice (cs : Array Value) : Nat → List Value → Array Value
  | _, [] => cs
  | o, v :: r => splice (cs.setIfInBounds o v) (o + 1) r
theorem splice_size : ∀ (vs : List Value) (o : Nat) (cs : Array Value), (splice cs o vs).size = cs.size
  | [], _, _ => rfl
  | v :: r, o, cs => by rw [splice, splice_size r]; simp
theorem splice_at : ∀ (vs : List Value) (o : Nat) (cs : Array Value) (i : Nat), o + vs.length ≤ cs.size → (splice cs o vs)[i]? = if o ≤ i ∧ i < o + vs.length then vs[i - o]? else cs[i]?
  | [], o, cs, i, _ => by
    rw [if_neg (by simp), splice]
  | v :: r, o, cs, i, h => by
    simp only [List.length_cons] at h ⊢
    rw [splice, splice_at r (o + 1) _ i (by simp; omega)]
    by_cases h1 : o + 1 ≤ i ∧ i < o + 1 + r.length
    · rw [if_pos h1, if_pos (by omega), show i - o = (i - (o + 1)) + 1 by omega, List.getElem?_cons_succ]
    · rw [if_neg h1, Array.getElem?_setIfInBounds]
      by_cases h2 : o = i
      · subst h2
        rw [if_pos rfl, if_pos (by omega), if_pos (by omega)]
        simp
      · rw [if_neg h2, if_neg (by omega)]
theorem Is.setCells {b : Nat} {t : TypeId} : ∀ (vs : List Value) (o : Nat) (w : World) (cs : Array Value), Is w b t cs → Is (w.setCells b o vs) b t (splice cs o vs)
  | [], _, _, _, h => h
  | v :: r, o, w, cs, h => by
    rw [World.setCells, splice]
    exact Is.setCells r (o + 1) _ _ (h.set o v)
theorem Fr.setCells {S : Nat → Prop} {w : World} {b : Nat} : ∀ (vs : List Value) (o : Nat) {w1 : World}, Fr S w w1 → (S b ∨ w.heap.size ≤ b) → Fr S w (w1.setCells b o vs)
  | [], _, _, f, _ => f
  | v :: r, o, _, f, hb => by
    rw [World.setCells]
    exact Fr.setCells r (o + 1) (f.setCell (p := ⟨b, o, none⟩) hb v) hb

/-- 'clear(s)' on a slice of n > 0 elements of any number of cells. -/
theorem run_clear_wide {P : Program} (w : World) (t e ty : TypeId) (z : Value) (zs : List Value) (ht : P.underlying t = some (.slice e)) (hv : ∀ w, (zeroValue e).run P w = .ok z w) (b o n c : Nat) (hn : 0 < n)
    (hz : (Builtin.zeroCells z.cells n).toList = zs) (h1 : ∀ u ∈ zs, u.oneCell' = true)
    (hc : ∀ j, j < zs.length → (w.cell? ⟨b, o + j, none⟩).isSome = true) (hf : ∀ j, j < zs.length → w.frozen? ⟨b, o + j, none⟩ = false) :
    (Builtin.clear_ #[t] ty #[.slice (some ⟨b, o, none⟩) n c]).run P w = .ok (.tuple #[]) (w.setCells b o zs) := by
  have hst := run_storeCells_cells (P := P) b o zs 0 w (by simpa using hc) (by simpa using hf) h1
  simp only [Nat.add_zero] at hst
  obtain ⟨m, rfl⟩ : ∃ m, n = m + 1 := ⟨n - 1, by omega⟩
  simp [Builtin.clear_, run_underlying ht, hv, hz, hst]

/-- The row when its first element was moved out and its last place emptied. -/
theorem wide_drop {w : World} {base size n c g : Nat} {e : TypeId} {hd rest zs : List Value} (h : w.ownsRow base e size (.slice (some ⟨g, 0, none⟩) (n + 1) c) (n + 1) (hd ++ rest)) (hl : hd.length = size) (hzl : zs.length = size) :
    ((w.setCells g 0 rest).setCells g (n * size) zs).ownsRow base e size (.slice (some ⟨g, 0, none⟩) n c) n rest := by
  have hr : rest.length = n * size := by
    have := h.1
    rw [List.length_append, hl, Nat.add_mul, Nat.one_mul] at this
    omega
  rcases h.2 with ⟨hv, _⟩ | ⟨g', cap, cur, hv, hb, hg, hnc, hm, hs, ht⟩
  · cases hv
  · have e1 : g' = g := by injection hv with hv _ _; injection hv with hv; injection hv with hv; exact hv.symm
    have e2 : cap = c := by injection hv with _ _ hv; exact hv.symm
    subst e1 e2
    have hroom : (n + 1) * size ≤ cap * size := Nat.mul_le_mul_right _ hnc
    rw [Nat.add_mul, Nat.one_mul] at hroom
    have k := Is.setCells zs (n * size) _ _ (Is.setCells rest 0 w cur hg)
    refine ⟨hr, .inr ⟨g', cap, _, rfl, hb, k, by omega, hm, by rw [splice_size, splice_size, hs], ?_⟩⟩
    apply List.ext_getElem?
    intro i
    rw [List.getElem?_take]
    by_cases hi : i < n * size
    · rw [if_pos hi, Array.getElem?_toList, splice_at _ _ _ _ (by rw [splice_size, hs, hzl]; omega), if_neg (by omega), splice_at _ _ _ _ (by rw [hs, hr]; omega), if_pos (by omega)]
      simp
    · rw [if_neg hi, List.getElem?_eq_none (by omega)]
end Go.Proofs.Ytmohefkingnknaa

/- Laws on rows of the call's own: appending a slice that is read, appending a text, what stays. Nothing here speaks of one program. -/
import Derived.Test.YtmohefkingnknaaBase
import Derived.Lib.AppendStr
namespace Go.Proofs.Ytmohefkingnknaa
open Go.RowKit

theorem own_fr {S : Nat → Prop} {w w1 : World} {base n : Nat} {e : TypeId} {v : Value} {xs : List Value} (h : w.ownsRow base e 1 v n xs) (f : Fr S w w1) (hn : ∀ k, v.ownBlock = some k → ¬ S k) : w1.ownsRow base e 1 v n xs := by
  refine ⟨h.1, ?_⟩
  rcases h.2 with k | ⟨g, cap, cur, hv, hb, hg, r⟩
  · exact .inl k
  · refine .inr ⟨g, cap, cur, hv, hb, ?_, r⟩
    rw [f.block g (lt_of_block hg) (hn g (by rw [hv]; rfl))]
    exact hg
theorem own_ne {w : World} {b1 b2 n1 n2 : Nat} {e1 e2 : TypeId} {v1 v2 : Value} {xs1 xs2 : List Value} (h1 : w.ownsRow b1 e1 1 v1 n1 xs1) (h2 : w.ownsRow b2 e2 1 v2 n2 xs2) (he : e1 ≠ e2) : ∀ k, v1.ownBlock = some k → v2.ownBlock ≠ some k := by
  intro k k1 k2
  rcases h1.2 with ⟨hv, _⟩ | ⟨g1, c1, u1, hv1, _, hg1, _⟩
  · rw [hv] at k1; cases k1
  · rcases h2.2 with ⟨hv, _⟩ | ⟨g2, c2, u2, hv2, _, hg2, _⟩
    · rw [hv] at k2; cases k2
    · rw [hv1] at k1
      rw [hv2] at k2
      have e1 : g1 = k := by simpa [Value.ownBlock] using k1
      have e2 : g2 = k := by simpa [Value.ownBlock] using k2
      rw [e1] at hg1
      rw [e2, hg1] at hg2
      injection hg2 with h
      injection h with _ h
      exact he h
theorem own_zero {w : World} {base n : Nat} {e : TypeId} {v : Value} {xs : List Value} (h : w.ownsRow base e 1 v n xs) : w.ownsRow 0 e 1 v n xs := by
  refine ⟨h.1, ?_⟩
  rcases h.2 with k | ⟨g, cap, cur, hv, hb, r⟩
  · exact .inl k
  · exact .inr ⟨g, cap, cur, hv, Nat.zero_le _, r⟩
theorem own_form {base n : Nat} {e : TypeId} {w : World} {v : Value} {xs : List Value} (h : w.ownsRow base e 1 v n xs) : ∃ A c, v = .slice A n c ∧ n ≤ c ∧ (0 < n → ∃ g, A = some ⟨g, 0, none⟩ ∧ g < w.heap.size) := by
  rcases h.2 with ⟨hv, h0⟩ | ⟨g, cap, cur, hv, _, hg, hnc, _⟩
  · exact ⟨none, 0, by rw [hv, h0], by omega, fun h => by omega⟩
  · exact ⟨_, _, hv, hnc, fun _ => ⟨g, rfl, lt_of_block hg⟩⟩
/-- A row that is owned, read. -/
theorem own_rd {w : World} {e : TypeId} {A : Option Addr} {base n c : Nat} {xs : List Value} (h : w.ownsRow base e 1 (.slice A n c) n xs) : Rd w A xs := fun h0 => by
  rcases h.2 with ⟨_, k⟩ | ⟨g, cap, cur, hv, _, hg, _⟩
  · have := h.1; omega
  · have hA : A = some ⟨g, 0, none⟩ := by injection hv
    refine ⟨g, 0, hA, lt_of_block hg, fun j u hu => ?_⟩
    have k := World.ownsRow.cells h (g := g) (by rw [Row.own, hA]; rfl) j u hu
    have e : (⟨g, 0, none⟩ : Addr).add j = ⟨g, 0 + j, none⟩ := by unfold Addr.add; split <;> simp_all
    rw [e] at k
    exact k
/-- A row that grew, where the call's own memory lies behind w0's. -/
theorem own_step {w0 W W' : World} {e : TypeId} {v : Value} {n : Nat} {xs : List Value} (f : Fr (fun _ => False) w0 W) (h : W.ownsRow w0.heap.size e 1 v n xs) (hg : W.grownBy W' v.ownBlock) : Fr (fun _ => False) w0 W' :=
  f.grown hg fun k hk => .inr (World.ownsRow.lt h k hk).1
/-- Another row, of other things, stays. -/
theorem own_kept {W W' : World} {b1 b2 n1 n2 : Nat} {e1 e2 : TypeId} {v1 v2 : Value} {xs1 xs2 : List Value} (h1 : W.ownsRow b1 e1 1 v1 n1 xs1) (h2 : W.ownsRow b2 e2 1 v2 n2 xs2) (hg : W.grownBy W' v1.ownBlock) (he : e1 ≠ e2) : W'.ownsRow b2 e2 1 v2 n2 xs2 :=
  own_fr (S := fun k => v1.ownBlock = some k) h2 ((Fr.refl _ W).grown hg fun _ hk => .inl hk) fun _ hk h => own_ne h1 h2 he _ h hk

theorem run_append_rd {P : Program} (w : World) (base : Nat) (t ty e : TypeId) (i : TypeInfo) (z : Value) (bytes : Nat) (ht : P.underlying t = some (.slice e)) (hi : P.info? e = some i) (hz : i.zero = some z)
    (hsize : i.size = 1) (hby : i.bytes = bytes) (hzs : z.cells.size = 1) (v : Value) (n : Nat) (xs : List Value) (hown : w.ownsRow base e 1 v n xs)
    (A : Option Addr) (c : Nat) (news : List Value) (hr : Rd w A news) (h1 : ∀ u ∈ news, u.oneCell' = true) (h63 : n + news.length ≤ maxLen) (hbytes : (n + news.length) * bytes ≤ 140737488355328) (hbase : base ≤ w.heap.size) :
    ∃ v' w', (Builtin.append_ #[t, t] ty #[v, .slice A news.length c]).run P w = .ok v' w' ∧ w'.ownsRow base e 1 v' (n + news.length) (xs ++ news) ∧ w.grownBy w' v.ownBlock := by
  rcases A with _ | a
  · have h0 : news.length = 0 := by
      rcases Nat.eq_zero_or_pos news.length with h | h
      · exact h
      · obtain ⟨_, _, hA, _⟩ := hr h
        cases hA
    have hn : news = [] := List.eq_nil_of_length_eq_zero h0
    subst hn
    refine ⟨v, w, ?_, by simpa using hown, World.grownBy.refl w _⟩
    rcases hown.2 with ⟨rfl, rfl⟩ | ⟨g, cap, cur, rfl, _, _, hnc, _⟩
    · simp [Builtin.append_, run_underlying ht, sizeOf, typeInfo, hi, Builtin.lenOf, Builtin.firstCells]
    · simp [Builtin.append_, run_underlying ht, sizeOf, typeInfo, hi, Builtin.lenOf, Builtin.firstCells, hnc, storeCells]
  · have hcells : ∀ j u, news[j]? = some u → w.cell? (a.add j) = some u := by
      intro j u hu
      have hpos : 0 < news.length := by have := (List.getElem?_eq_some_iff.1 hu).1; omega
      obtain ⟨b, o, hA, _, hc⟩ := hr hpos
      have ha : a = ⟨b, o, none⟩ := by injection hA
      have hx := hc j u hu
      rw [ha]
      unfold Addr.add
      split
      · rename_i hj; subst hj; exact hx
      · exact hx
    obtain ⟨v', w', hrun, h2, h3, _, _⟩ := run_append_own_at (P := P) w base t ty e i z 1 bytes ht hi hz hsize hby hzs (by decide) v n xs hown a news.length c news (by simp) hcells h1 h63 hbytes hbase
    exact ⟨v', w', hrun, h2, h3⟩

theorem wpList_append_rd {P : Program} (w : World) {ops : Array Oper} {rest : List Oper} {o : Oper} {a : Act} {Q : Exit → Act → World → Prop} (hgd : o.guard = none) (s x : Operand) (t : TypeId)
    (ho : o.op = .call { callee := .builtin .append, args := #[s, x], argTypes := #[t, t] })
    (base : Nat) (e : TypeId) (i : TypeInfo) (z : Value) (bytes : Nat) (ht : P.underlying t = some (.slice e)) (hi : P.info? e = some i) (hz : i.zero = some z)
    (hsize : i.size = 1) (hby : i.bytes = bytes) (hzs : z.cells.size = 1) (v : Value) (n : Nat) (xs : List Value) (hs : a.eval s = v) (hown : w.ownsRow base e 1 v n xs)
    (A : Option Addr) (c m : Nat) (news : List Value) (hm : news.length = m) (hx : a.eval x = .slice A m c) (hr : Rd w A news) (h1 : ∀ u ∈ news, u.oneCell' = true) (h63 : n + m ≤ maxLen) (hbytes : (n + m) * bytes ≤ 140737488355328) (hbase : base ≤ w.heap.size)
    (h : ∀ v' w', w'.ownsRow base e 1 v' (n + m) (xs ++ news) → w.grownBy w' v.ownBlock → wpList P ops Q rest (a.put o.dst v') w') :
    wpList P ops Q (o :: rest) a w := by
  subst hm
  refine wpList_plain hgd fun K hK => ?_
  obtain ⟨v', w', hrun, h2, h3⟩ := run_append_rd (P := P) w base t o.type e i z bytes ht hi hz hsize hby hzs v n xs hown A c news hr h1 h63 hbytes hbase
  unfold Oper.wp execOp
  simp only [ho, resolve, invoke, builtin, Sem.run_bind, Sem.run_pure, Result.andThen_ok, List.map_toArray, List.map_cons, List.map_nil, hs, hx, hrun]
  exact hK _ _ (h v' w' h2 h3)
theorem strCells_bytes (s : ByteArray) : Lib.strCells s = (bytesOf s).map B := rfl
/-- the text of a row of bytes -/
theorem own_text {P : Program} {w : World} {base n : Nat} {e : TypeId} {v : Value} {bs : List UInt8} {src dst : TypeId} (h : w.ownsRow base e 1 v n (bs.map B)) (hs : P.underlying src = some (.slice e)) (he : P.underlying e = some (.int .u8)) (hd : P.underlying dst = some .string) :
    (convert src dst v).run P w = .ok (.string ⟨bs.toArray⟩) w := by
  obtain ⟨A, c, rfl, _, _⟩ := own_form h
  have hn : n = bs.length := by have := h.1; simp at this; omega
  subst hn
  exact Row.text (own_zero h) hs he hd
end Go.Proofs.Ytmohefkingnknaa

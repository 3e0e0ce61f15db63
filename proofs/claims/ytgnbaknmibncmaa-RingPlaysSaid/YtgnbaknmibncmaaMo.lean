/- The contracts of the document's own queue (package ballastref04): a list, how many it is for, how many were dropped. -/
import Derived.Test.YtgnbaknmibncmaaKeeps
import Derived.Test.YtgnbaknmibncmaaMod
import Derived.Outline
namespace Go.Proofs.Ytgnbaknmibncmaa
open Go.RowKit

/-- The document's queue lies at block b. -/
structure Mo (w : World) (b k : Nat) (A : Option Addr) (c : Nat) (L : List Int) (lost : Int) : Prop where
  is : Is w b 38 #[.slice A L.length c, .int .i64 (k : Nat), .int .i64 lost]
  row : w.ownsRow 0 3 1 (.slice A L.length c) L.length (cellsI L)
theorem mo_fr {w w1 : World} {b k c : Nat} {A : Option Addr} {L : List Int} {lost : Int} {S : Nat → Prop} (h : Mo w b k A c L lost) (f : Fr S w w1) (hb : ¬ S b) (hA : ∀ j, blk A = some j → ¬ S j) : Mo w1 b k A c L lost :=
  ⟨h.is.fr f hb, wide_fr h.row f fun j hj => hA j (by rw [Row.own] at hj; exact hj)⟩
theorem mo_none {w w1 : World} {b k c : Nat} {A : Option Addr} {L : List Int} {lost : Int} (h : Mo w b k A c L lost) (f : Fr (fun _ => False) w w1) : Mo w1 b k A c L lost := mo_fr h f id fun _ _ => id

set_option maxHeartbeats 800000 in
theorem mnew (a : Int) (w : World) (h1 : -9223372036854775808 ≤ a) (h2 : a ≤ 9223372036854775807) : Calls Try.prog 9 #[.int .i64 a] w fun e w' => e = .returned (.pointer (some ⟨w.heap.size, 0, none⟩)) ∧ Mo w' w.heap.size (roomN a) none 0 [] 0 ∧ Fr (fun _ => False) w w' ∧ w.heap.size < w'.heap.size := by
  have e1 : (if 1 > a then (1 : Int) else a) = max a 1 := by split <;> omega
  have e2 : (if 64 < max a 1 then (64 : Int) else max a 1) = (roomN a : Nat) := by unfold roomN; split <;> omega
  generalize roomN a = k at *
  generalize max a 1 = a1 at *
  go_enter Try.func9, Try.ntmps9
  go_wp2
  go_ret
  exact ⟨rfl, ⟨Is.new w _ _, World.ownsRow_nil _ _ _ _⟩, (Fr.refl _ w).alloc _, by simp⟩

theorem mnone {w : World} {b k c : Nat} {A : Option Addr} {lost : Int} (h : Mo w b k A c [] lost) :
    Calls Try.prog 11 #[.pointer (some ⟨b, 0, none⟩)] w fun e w' => e = .returned (.tuple #[.int .i64 0, .bool false]) ∧ w = w' := by
  have g1 := h.is.cell 0
  clear h
  go_enter Try.func11, Try.ntmps11
  go_wp2
  go_ret2
  exact ⟨rfl, rfl⟩

set_option maxHeartbeats 4000000 in
theorem mtake {w : World} {b k c : Nat} {A : Option Addr} {x : Int} {L : List Int} {lost : Int} (h : Mo w b k A c (x :: L) lost) (hL : L.length ≤ 64) :
    Calls Try.prog 11 #[.pointer (some ⟨b, 0, none⟩)] w fun e w' => e = .returned (.tuple #[.int .i64 x, .bool true]) ∧ ∃ A' c', Mo w' b k A' c' L lost ∧ Fr (fun j => j = b) w w' ∧ ∀ j, blk A' = some j → w.heap.size ≤ j := by
  obtain ⟨A', c', hv, q1, q2, hA, q3⟩ := wide_form h.row
  have e1 : A' = A := by injection hv with hv _ _; exact hv.symm
  have e2 : c' = c := by injection hv with _ _ hv; exact hv.symm
  subst e1 e2
  obtain ⟨g, rfl, hg⟩ := hA (by simp)
  have g1 := h.is.cell 0
  have gf := h.is.frozen
  have g2 : w.cell? ⟨g, 0, none⟩ = some (.int .i64 x) := h.row.cellAt 0 (by simp)
  obtain ⟨A2, c2, hsl, hrd⟩ := tail_slice (wide_rd h.row) (by simpa using q1)
  have his := h.is
  have hb := h.is.lt
  obtain ⟨i0, hi0, hz0, hz1, hz2⟩ := info_parts infoI
  rw [List.length_cons] at g1
  clear q1 q2 q3 hv hA h
  go_enter Try.func11, Try.ntmps11
  have f0 := (Fr.refl (fun _ => False) w).alloc (.cells #[] 3)
  have hrd0 : Rd (w.alloc (.cells #[] 3)) A2 (cellsI L) := hrd.fr f0 fun _ _ => id
  have own0 : (w.alloc (.cells #[] 3)).ownsRow w.heap.size 3 1 (.slice (some ⟨w.heap.size, 0, none⟩) 0 0) 0 [] := World.ownsRow_lit w #[] 0 (Nat.le_refl _) (by unfold maxLen; omega) rfl
  have his0 := his.alloc (.cells #[] 3)
  clear hrd
  go_wp2_with (at_builtin; refine wpList_append_wide _ rfl (.tmp 18) (.tmp 23) 28 rfl w.heap.size 3 i0 _ 1 8 Try.underlying28 hi0 hz0 hz1 hz2 rfl (by decide) (.slice (some ⟨w.heap.size, 0, none⟩) 0 0) 0 [] rfl own0 A2 c2 L.length (cellsI L) (by rw [cellsI_length, Nat.mul_one]) rfl hrd0 (cellsI_one L) (by unfold maxLen; omega) (by omega) (by simp) ?_; intro v' w1 hown hg1 hat; rw [Nat.zero_add, List.nil_append] at hown; obtain ⟨A', c5, rfl, _, _, _, _⟩ := wide_form hown; have f1 := f0.grown hg1 (fun j hj => .inr (Nat.le_of_eq (own_at hj))); have i1 := his.fr f1 id; have k0 := i1.cell 0; have k1 := i1.frozen; clear hat)
  go_ret2
  have f2 := (Fr.refl (fun j => j = b) w1).setCell (p := ⟨b, 0, none⟩) (.inl rfl) (.slice A' L.length c5)
  have hne := wide_is_ne hown i1 (by decide)
  have hlo := World.ownsRow.lt hown
  refine ⟨rfl, A', c5, ⟨?_, wide_fr (own_zero hown) f2 fun j hj e => hne (e ▸ hj)⟩, (f1.mono fun _ _ h => h.elim).trans f2 fun _ _ h => h, fun j hj => (hlo j (by rw [Row.own]; exact hj)).1⟩
  simpa using i1.set 0 (.slice A' L.length c5)

theorem mo_app {w1 : World} {b k c1 c5 : Nat} {A1 A' : Option Addr} {M : List Int} {x lost : Int} (i1 : Is w1 b 38 #[.slice A1 M.length c1, .int .i64 (k : Nat), .int .i64 lost]) (hown : w1.ownsRow 0 3 1 (.slice A' (M.length + 1) c5) (M.length + 1) (cellsI M ++ [.int .i64 x])) :
    Mo (w1.setCell ⟨b, 0, none⟩ (.slice A' (M.length + 1) c5)) b k A' c5 (M ++ [x]) lost := by
  have hne := wide_is_ne hown i1 (by decide)
  have hl : (M ++ [x]).length = M.length + 1 := by simp
  have hc : cellsI (M ++ [x]) = cellsI M ++ [.int .i64 x] := by unfold cellsI; rw [List.map_append]; rfl
  refine ⟨?_, ?_⟩
  · rw [hl]
    simpa using i1.set 0 (.slice A' (M.length + 1) c5)
  · rw [hl, hc]
    exact wide_fr hown ((Fr.refl (fun j => j = b) w1).setCell (p := ⟨b, 0, none⟩) (.inl rfl) _) fun j hj e => hne (e ▸ hj)
theorem mo_lost {w1 : World} {b k c1 : Nat} {A1 : Option Addr} {M : List Int} {lost : Int} (q : Mo w1 b k A1 c1 M lost) (lost' : Int) : Mo (w1.setCell ⟨b, 2, none⟩ (.int .i64 lost')) b k A1 c1 M lost' := by
  have hne := wide_is_ne q.row q.is (by decide)
  refine ⟨?_, wide_fr q.row ((Fr.refl (fun j => j = b) w1).setCell (p := ⟨b, 2, none⟩) (.inl rfl) _) fun j hj e => hne (e ▸ hj)⟩
  simpa using q.is.set 2 (.int .i64 lost')
/-- what turns of a queue that has moved on, seen from where it began -/
theorem fr_on {w wr w1 : World} {b : Nat} {A A1 : Option Addr} (f : Fr (fun j => j = b ∨ blk A = some j) w wr) (g : Fr (fun j => j = b ∨ blk A1 = some j) wr w1) (h : blk A1 = blk A ∨ ∀ j, blk A1 = some j → w.heap.size ≤ j) : Fr (fun j => j = b ∨ blk A = some j) w w1 :=
  f.trans g fun j hj e => by
    rcases e with e | e
    · exact .inl e
    · rcases h with h | h
      · exact .inr (h ▸ e)
      · have := h j e
        omega

set_option maxHeartbeats 8000000 in
/-- Put of the document's queue: as many as there is room for. -/
theorem mput {w : World} {b k c c2 : Nat} {A A2 : Option Addr} {L l : List Int} {lost : Int} (h : Mo w b k A c L lost) (hk : k ≤ 64) (hLk : L.length ≤ k) (hl : Rd w A2 (cellsI l)) (hsep : 0 < l.length → ∀ j, blk A2 = some j → j ≠ b ∧ blk A ≠ some j) (hn : l.length ≤ 17592186044416) :
    Calls Try.prog 13 #[.pointer (some ⟨b, 0, none⟩), .slice A2 l.length c2] w fun e w' => e = .returned (.int .i64 ((l.length - min l.length (k - L.length) : Nat))) ∧
      ∃ A' c', Mo w' b k A' c' (L ++ l.take (min l.length (k - L.length))) (wrap64 (lost + ((l.length - min l.length (k - L.length) : Nat)))) ∧ Fr (fun j => j = b ∨ blk A = some j) w w' ∧ (blk A' = blk A ∨ ∀ j, blk A' = some j → w.heap.size ≤ j) := by
  obtain ⟨i0, hi0, hz0, hz1, hz2⟩ := info_parts infoI
  go_enter Try.func13, Try.ntmps13
  go_wp2_with fail
  go_loopw [5, 10] (fun n i wr => ∃ j A1 c1, j ≤ l.length ∧ i = .int .i64 (j : Nat) ∧ n = .int .i64 ((j - min j (k - L.length) : Nat)) ∧ Mo wr b k A1 c1 (L ++ l.take (min j (k - L.length))) lost ∧ Fr (fun j => j = b ∨ blk A = some j) w wr ∧ (blk A1 = blk A ∨ ∀ j, blk A1 = some j → w.heap.size ≤ j)) (fun _ i _ => l.length - (intOf i).toNat)
  case atStart => exact ⟨0, A, c, Nat.zero_le _, rfl, by simp, by simpa using h, Fr.refl _ _, .inl rfl⟩
  case round =>
    obtain ⟨j, A1, c1, hj, rfl, rfl, q, fr, hA⟩ := hrel
    by_cases hlt : j < l.length
    · obtain ⟨g, o, rfl, hg, hcl⟩ := hl.fr fr (fun i hi e => by
        rcases e with e | e
        · exact (hsep (by omega) i hi).1 e
        · exact (hsep (by omega) i hi).2 e) (by rw [cellsI_length]; omega)
      have hx : (cellsI l)[j]? = some (.int .i64 l[j]) := by unfold cellsI; rw [List.getElem?_map, List.getElem?_eq_getElem hlt]; rfl
      have hx2 := hcl j _ hx
      by_cases hfull : j < k - L.length
      · have hj1 : min j (k - L.length) = j := by omega
        have hj2 : min (j + 1) (k - L.length) = j + 1 := by omega
        rw [hj1] at q ⊢
        have hM : (L ++ l.take j).length = L.length + j := by rw [List.length_append, List.length_take]; omega
        have hM2 : L ++ l.take (j + 1) = (L ++ l.take j) ++ [l[j]] := by rw [List.take_succ_eq_append_getElem hlt, List.append_assoc]
        generalize l[j] = x at *
        generalize L ++ l.take j = M at *
        have HM2 := Lib.hid hM2
        have hm1 : M.length < k := by omega
        have hm2 : M.length ≤ 64 := by omega
        have HJ2 := Lib.hid hj2
        have g0 := q.is.cell 0
        have g1 := q.is.cell 1
        have gf := q.is.frozen
        have hb := q.is.lt
        clear hM hM2 hx hj1 hj2 hcl
        rw [Nat.sub_self]
        go_wp2_with fail
        go_quiet (fail)
        have f0 := ((Fr.refl (fun _ => False) wr).drewN nq).alloc (.cells #[.int .i64 x] 3)
        have q0 := mo_none q f0
        go_wp2_with (at_builtin; refine wpList_append_wide _ rfl (.tmp 28) (.tmp 30) 28 rfl 0 3 i0 _ 1 8 Try.underlying28 hi0 hz0 hz1 hz2 rfl (by decide) (.slice A1 M.length c1) M.length (cellsI M) rfl q0.row (some ⟨wr.heap.size, 0, none⟩) 1 1 [.int .i64 x] rfl rfl (Rd.one (wr.drewN nq) (.int .i64 x) 3) (cellsI_one [x]) (by unfold maxLen; omega) (by omega) (Nat.zero_le _) ?_; intro v' w1 hown hg1 hat; have f1 := (f0.mono (S' := fun i => i = b ∨ blk A1 = some i) fun _ _ h => h.elim).grown hg1 (fun i hi => .inl (.inr (by rw [Row.own] at hi; exact hi))); have i1 := q0.is.fr ((Fr.refl (fun i => blk A1 = some i) _).grown hg1 (fun i hi => .inl (by rw [Row.own] at hi; exact hi))) (fun e => wide_is_ne q0.row q0.is (by decide) (by rw [Row.own]; exact e)); have k0 := i1.cell 0; have k1 := i1.frozen; obtain ⟨A', c5, rfl, _, _, _, _⟩ := wide_form hown)
        go_roundw
        case rel =>
          refine ⟨j + 1, A', c5, by omega, by go_num, by rw [HJ2.out, Nat.sub_self]; rfl, by rw [HJ2.out, HM2.out]; exact mo_app i1 hown, fr_on fr (f1.setCell (p := ⟨b, 0, none⟩) (.inl (.inl rfl)) _) hA, ?_⟩
          rw [Row.own, Row.own] at hat
          rcases hat with e | e
          · rcases hA with e2 | e2
            · exact .inl (e.trans e2)
            · exact .inr fun i hi => e2 i (e ▸ hi)
          · refine .inr fun i hi => ?_
            rw [e] at hi
            injection hi with hi
            have := fr.size
            simp at hi
            omega
        case measure => simp [intOf]; omega
      · have hj1 : min j (k - L.length) = k - L.length := by omega
        have hj2 : min (j + 1) (k - L.length) = k - L.length := by omega
        rw [hj1] at q ⊢
        have hM : (L ++ l.take (k - L.length)).length = k := by rw [List.length_append, List.length_take]; omega
        obtain ⟨e, he⟩ : ∃ e, e = j - (k - L.length) := ⟨_, rfl⟩
        have he2 : j + 1 - (k - L.length) = e + 1 := by omega
        have he3 : e ≤ 17592186044416 := by omega
        rw [← he]
        generalize l[j] = x at *
        have HE2 := Lib.hid he2
        have HJ2 := Lib.hid hj2
        have g0 := q.is.cell 0
        have g1 := q.is.cell 1
        have gf := q.is.frozen
        have hb := q.is.lt
        generalize hMe : L ++ l.take (k - L.length) = M at *
        have HMe := Lib.hid hMe
        have hm1 : k ≤ M.length := by omega
        have hm2 : M.length ≤ k := by omega
        clear hM hMe hx hj1 hj2 hcl he he2
        go_wp2_with fail
        go_quiet (fail)
        go_wp2_with fail
        go_roundw
        case rel =>
          exact ⟨j + 1, A1, c1, by omega, by go_num, by rw [HJ2.out, HE2.out]; go_num, by rw [HJ2.out, HMe.out]; exact mo_none q ((Fr.refl _ wr).drewN nq), fr.drewN nq, hA⟩
        case measure => simp [intOf]; omega
    · have hje : j = l.length := by omega
      subst hje
      have he3 : l.length - min l.length (k - L.length) ≤ 17592186044416 := by omega
      generalize hE : l.length - min l.length (k - L.length) = e at *
      have HE := Lib.hid hE
      clear hE
      have g2 := q.is.cell 2
      have gf := q.is.frozen
      go_wp2_with fail
      go_ret
      rw [HE.out]
      exact ⟨rfl, A1, c1, mo_lost q _, fr_on fr ((Fr.refl (fun i => i = b ∨ blk A1 = some i) wr).setCell (p := ⟨b, 2, none⟩) (.inl (.inl rfl)) _) hA, hA⟩
end Go.Proofs.Ytgnbaknmibncmaa

/- The walk of RingOrder: texts come out in the order in which they were put, and just those are missing that were told to be dropped. -/
import Derived.Test.YtgnbaknmibncmaaLives
import Derived.Test.YtgnbaknmibncmaaQueS
import Derived.Test.YtgnbaknmibncmaaBatch
import Derived.Test.YtgnbaknmibncmaaMod
import Derived.Test.YtgnbaknmibncmaaKeeps
namespace Go.Proofs.Ytgnbaknmibncmaa
open Go.RowKit

/-- The queue of texts at br, and the two rows vp (all that was put and not dropped) and vg (what came out), each with memory of its own. -/
structure Tex (w0 w : World) (br k : Nat) (A : Option Addr) (c : Nat) (vp vg : Value) (P G Q : List ByteArray) (lost : Int) : Prop where
  que : Que 63 9 1 w br k A c Q.length (cellsS Q) lost
  rp : w.ownsRow w0.heap.size 9 1 vp P.length (cellsS P)
  rg : w.ownsRow w0.heap.size 9 1 vg G.length (cellsS G)
  s1 : ∀ i, blk A = some i → w0.heap.size ≤ i ∧ vp.ownBlock ≠ some i ∧ vg.ownBlock ≠ some i
  s2 : ∀ i, vp.ownBlock = some i → vg.ownBlock ≠ some i
  fr : Fr (fun _ => False) w0 w
  hb : w0.heap.size ≤ br
section
variable {w0 w w' : World} {br k c c' : Nat} {A A' : Option Addr} {vp vg vp' vg' : Value} {P G Q P' G' Q' : List ByteArray} {lost lost' : Int}
theorem os_none (h : Tex w0 w br k A c vp vg P G Q lost) (f : Fr (fun _ => False) w w') : Tex w0 w' br k A c vp vg P G Q lost :=
  ⟨que_none h.que f, wide_fr h.rp f fun _ _ => id, wide_fr h.rg f fun _ _ => id, h.s1, h.s2, own_fr0 h.fr f, h.hb⟩
theorem os_que (h : Tex w0 w br k A c vp vg P G Q lost) (q : Que 63 9 1 w' br k A' c' Q'.length (cellsS Q') lost') (f : Fr (fun j => j = br ∨ blk A = some j) w w') (a : blk A' = blk A ∨ ∀ i, blk A' = some i → w.heap.size ≤ i) :
    Tex w0 w' br k A' c' vp vg P G Q' lost' := by
  have np : ∀ i, vp.ownBlock = some i → ¬ (i = br ∨ blk A = some i) := fun i hi e => by
    rcases e with e | e
    · exact wide_is_ne h.rp h.que.is (by decide) (by rw [hi, e])
    · exact (h.s1 i e).2.1 hi
  have ng : ∀ i, vg.ownBlock = some i → ¬ (i = br ∨ blk A = some i) := fun i hi e => by
    rcases e with e | e
    · exact wide_is_ne h.rg h.que.is (by decide) (by rw [hi, e])
    · exact (h.s1 i e).2.2 hi
  refine ⟨q, wide_fr h.rp f np, wide_fr h.rg f ng, fun i hi => ?_, h.s2, own_que h.fr f h.hb fun i hi => (h.s1 i hi).1, h.hb⟩
  rcases a with e | e
  · exact h.s1 i (e ▸ hi)
  · have h1 := e i hi
    exact ⟨Nat.le_trans h.fr.size h1, fun e2 => by have := wide_lt h.rp i e2; omega, fun e2 => by have := wide_lt h.rg i e2; omega⟩
theorem os_p (h : Tex w0 w br k A c vp vg P G Q lost) (own : w'.ownsRow w0.heap.size 9 1 vp' P'.length (cellsS P')) (g : w.grownBy w' vp.ownBlock) (hat : vp'.ownBlock = vp.ownBlock ∨ vp'.ownBlock = some w.heap.size) : Tex w0 w' br k A c vp' vg P' G Q lost := by
  have f := (Fr.refl (fun j => vp.ownBlock = some j) w).grown g fun _ hj => .inl hj
  refine ⟨que_fr h.que f (fun e => wide_is_ne h.rp h.que.is (by decide) e) fun i hi e => (h.s1 i hi).2.1 e, own, wide_fr h.rg f fun i hi e => h.s2 i e hi, fun i hi => ⟨(h.s1 i hi).1, fun e => ?_, (h.s1 i hi).2.2⟩, fun i hi e => ?_, h.fr.grown g (fun j hj => .inr (World.ownsRow.lt h.rp j hj).1), h.hb⟩
  · rcases hat with e2 | e2
    · exact (h.s1 i hi).2.1 (e2 ▸ e)
    · rw [e2] at e
      injection e with e
      have := wide_lt h.que.row i (by rw [Row.own]; exact hi)
      omega
  · rcases hat with e2 | e2
    · exact h.s2 i (e2 ▸ hi) e
    · rw [e2] at hi
      injection hi with hi
      have := wide_lt h.rg i e
      omega
theorem os_g (h : Tex w0 w br k A c vp vg P G Q lost) (own : w'.ownsRow w0.heap.size 9 1 vg' G'.length (cellsS G')) (g : w.grownBy w' vg.ownBlock) (hat : vg'.ownBlock = vg.ownBlock ∨ vg'.ownBlock = some w.heap.size) : Tex w0 w' br k A c vp vg' P G' Q lost := by
  have f := (Fr.refl (fun j => vg.ownBlock = some j) w).grown g fun _ hj => .inl hj
  refine ⟨que_fr h.que f (fun e => wide_is_ne h.rg h.que.is (by decide) e) fun i hi e => (h.s1 i hi).2.2 e, wide_fr h.rp f fun i hi e => h.s2 i hi e, own, fun i hi => ⟨(h.s1 i hi).1, (h.s1 i hi).2.1, fun e => ?_⟩, fun i hi e => ?_, h.fr.grown g (fun j hj => .inr (World.ownsRow.lt h.rg j hj).1), h.hb⟩
  · rcases hat with e2 | e2
    · exact (h.s1 i hi).2.2 (e2 ▸ e)
    · rw [e2] at e
      injection e with e
      have := wide_lt h.que.row i (by rw [Row.own]; exact hi)
      omega
  · rcases hat with e2 | e2
    · exact h.s2 i hi (e2 ▸ e)
    · rw [e2] at e
      injection e with e
      have := wide_lt h.rp i hi
      omega
end

set_option maxHeartbeats 800000 in
theorem sametexts {w : World} {A A' : Option Addr} {c c' : Nat} {l : List ByteArray} (hl : Rd w A (cellsS l)) (hl' : Rd w A' (cellsS l)) (hlen : l.length ≤ 140737488351232) :
    Calls Try.prog 24 #[.slice A l.length c, .slice A' l.length c'] w fun e w' => e = .returned (.bool true) ∧ Fr (fun _ => False) w w' := by
  go_enter Try.func24, Try.ntmps24
  go_wp2
  go_loopw [13] (fun i wr => ∃ k, k ≤ l.length ∧ i = .int .i64 (k : Nat) ∧ Fr (fun _ => False) w wr) (fun i _ => l.length - (intOf i).toNat)
  case atStart => exact ⟨0, Nat.zero_le _, rfl, Fr.refl _ _⟩
  case round =>
    obtain ⟨k, hk, rfl, g1⟩ := hrel
    by_cases hlt : k < l.length
    · obtain ⟨g, o, rfl, hg, hc⟩ := (hl.fr g1 fun _ _ => id) (by rw [cellsS_length]; omega)
      obtain ⟨g', o', rfl, hg', hc'⟩ := (hl'.fr g1 fun _ _ => id) (by rw [cellsS_length]; omega)
      have hx : (cellsS l)[k]? = some (.string l[k]) := by unfold cellsS; rw [List.getElem?_map, List.getElem?_eq_getElem hlt]; rfl
      have c1 := hc k _ hx
      have c2 := hc' k _ hx
      clear hc hc' hl hl' hx
      generalize l[k] = x at *
      go_wp2
      go_quiet (fail)
      go_wp2
      go_roundw
      case rel => exact ⟨k + 1, by omega, by go_num, g1.drewN nq⟩
      case measure => simp [intOf]; omega
    · go_wp2
      go_ret
      exact ⟨rfl, g1⟩

theorem room2 (n k p : Nat) (hn : n ≤ k) : ∃ f d, f + d = p ∧ (d = 0 ∧ n + f ≤ k ∨ 0 < d ∧ k = n + f) := ⟨min p (k - n), p - min p (k - n), by omega, by omega⟩

set_option maxRecDepth 100000 in
set_option maxHeartbeats 8000000 in
theorem order_walk (a t : Int) (ha1 : -9223372036854775808 ≤ a) (ha2 : a ≤ 9223372036854775807) (A2 : Option Addr) (c2 : Nat) (l : List Bat) (hl : l.length ≤ 1048576) (ht : tot l ≤ 1048576) (w : World) (h : Bats w A2 l) :
    Calls Try.prog 4 #[.int .i64 a, .slice A2 l.length c2, .int .i64 t] w fun e w' => e = .returned (.bool true) ∧ Below w.heap.size w w' := by
  obtain ⟨i0, hi0, hz0, hz1, hz2⟩ := info_parts infoS
  have KL := lives_any w
  have KS := fun w => makeS a w ha1 ha2
  have hlo := roomN_lo a
  have hhi := roomN_hi a
  generalize roomN a = k at *
  obtain ⟨T, hT, hT4⟩ := umod t 4 (by decide) (by decide)
  rw [show ((4 : Nat) : Int) = 4 from rfl] at hT
  have hT1 : wrap64 ((IntKind.u64.wrap t).tmod 4) ≤ 3 := by omega
  clear hT hT4
  go_enter Try.func4, Try.ntmps4
  go_wp2_with fail
  refine KL.mono ?_
  clear KL
  rintro e w1 ⟨rfl, f1⟩
  go_wp2_with fail
  refine (KS _).mono ?_
  clear KS
  rintro e w2 ⟨rfl, q2, f2, z2⟩
  have os0 : Tex w w2 w1.heap.size k none 0 (.slice none 0 0) (.slice none 0 0) [] [] [] 0 := ⟨q2, World.ownsRow_nil _ _ _ _, World.ownsRow_nil _ _ _ _, (fun _ h => by cases h), (fun _ h => by cases h), own_fr0 f1 f2, f1.size⟩
  clear f1 f2 z2 q2
  generalize w1.heap.size = br at *
  go_wp2_with fail
  go_loopw [8, 9, 10, 29] (fun vp vg x i wr => ∃ (j : Nat) (A : Option Addr) (c : Nat) (P G Q : List ByteArray) (lost : Int), j ≤ l.length ∧ i = .int .i64 (j : Nat) ∧ x = .int .i64 lost ∧ Tex w wr br k A c vp vg P G Q lost ∧ P = G ++ Q ∧ P.length ≤ tot (l.take j)) (fun _ _ _ i _ => l.length - (intOf i).toNat)
  case atStart => exact ⟨0, none, 0, [], [], [], 0, Nat.zero_le _, rfl, rfl, os0, rfl, Nat.zero_le _⟩
  case round =>
    clear os0
    obtain ⟨j, A, c, P, G, Q, lost, hj, rfl, rfl, hos, hPQ, hPt⟩ := hrel
    by_cases hlt : j < l.length
    · obtain ⟨g, o, rfl, hg, hcl⟩ := h.1 (by omega)
      have hp0 := hcl j hlt
      obtain ⟨hrd, hcp, hmx⟩ := h.2 l[j] (List.getElem_mem hlt)
      have htt := tot_take hlt
      have htl := tot_le l (j + 1)
      have hx0 : wr.cell? ⟨g, o + j, none⟩ = some (.slice l[j].A l[j].l.length l[j].c) := (hos.fr.cell (p := ⟨g, o + j, none⟩) hg id).trans hp0
      generalize l[j] = p at *
      obtain ⟨Ap, cp, lp⟩ := p
      simp only at hx0 hrd hcp hmx htt
      have HH := Lib.hid h
      clear h hp0 hcl
      obtain ⟨f, d, hfd, hfd2⟩ := room2 Q.length k lp.length hos.que.fit
      have K := putS (c2 := cp) (f := f) (d := d) (ys := cellsS (lp.take f)) (zs := cellsS (lp.drop f)) hos.que (by rw [← cellsS_split]; exact hrd.fr hos.fr fun _ _ => id) (by rw [cellsS_length, List.length_take]; omega) (cellsS_one _) (by omega) (by unfold maxLen at *; omega) hfd2
      rw [hfd, ← cellsS_append, show Q.length + f = (Q ++ lp.take f).length by rw [List.length_append, List.length_take]; omega] at K
      have hdl : d ≤ lp.length := by omega
      have hfl : f ≤ lp.length := by omega
      have e0 : (lp.length : Int) - (d : Int) = (f : Int) := by omega
      clear hfd2 hfd
      go_wp2_with fail
      refine K.mono ?_
      clear K
      rintro e w5 ⟨rfl, A5, c5, q5, f5, a5⟩
      have os5 := os_que hos q5 f5 a5
      clear hos q5 f5 a5 hx0
      have hdn : decide ((d : Int) < 0) = false := by rw [decide_eq_false_iff_not]; omega
      have hrd5 : Rd w5 Ap (cellsS (lp.take f)) := by
        have := hrd.fr os5.fr fun _ _ => id
        rw [cellsS_split lp f] at this
        exact this.pre
      have hPl : P.length + f ≤ 1048576 := by omega
      have hbase := os5.fr.size
      go_wp2_with (at_builtin; refine wpList_append_wide _ rfl (.tmp 47) (.tmp 53) 44 rfl w.heap.size 9 i0 _ 1 16 Try.underlying44 hi0 hz0 hz1 hz2 rfl (by decide) u8 P.length (cellsS P) rfl os5.rp Ap cp f (cellsS (lp.take f)) (by rw [cellsS_length, List.length_take]; omega) rfl hrd5 (cellsS_one _) (by unfold maxLen; omega) (by omega) hbase ?_; intro v6 w6 own6 g6 at6; rw [← cellsS_append, show P.length + f = (P ++ lp.take f).length by rw [List.length_append, List.length_take]; omega] at own6; have os6 := os_p os5 own6 g6 at6; clear os5 own6 g6 at6 hbase hrd5)
      have hPQ6 : P ++ lp.take f = G ++ (Q ++ lp.take f) := by rw [hPQ, List.append_assoc]
      have hPt6 : (P ++ lp.take f).length ≤ tot (l.take (j + 1)) := by rw [List.length_append, List.length_take]; omega
      generalize P ++ lp.take f = P6 at *
      generalize Q ++ lp.take f = Q6 at *
      generalize wrap64 (lost + (d : Nat)) = lost6 at *
      have HPQ6 := Lib.hid hPQ6
      clear hPQ hPQ6 hPt htt hPl e0 hdn hdl hfl hrd hcp hmx
      obtain ⟨wo, rfl⟩ : ∃ wo : World, wo = wr := ⟨_, rfl⟩
      go_loopw [9, 14] (fun vg i wx => ∃ (i1 : Nat) (A : Option Addr) (c : Nat) (G Q : List ByteArray), i1 ≤ 3 ∧ i = .int .i64 (i1 : Nat) ∧ Tex w wx br k A c v6 vg P6 G Q lost6 ∧ Hid (P6 = G ++ Q)) (fun _ i _ => 4 - (intOf i).toNat)
      case atStart => exact ⟨0, A5, c5, G, Q6, by omega, rfl, os6, HPQ6⟩
      case round =>
        clear os6 HPQ6
        obtain ⟨i1, A7, c7, G7, Q7, hi3, rfl, os7, H7⟩ := hrel
        by_cases hit : (i1 : Int) < wrap64 ((IntKind.u64.wrap t).tmod 4)
        · rcases Q7 with _ | ⟨s, Q7⟩
          · have q7 := os7.que
            go_wp2_with fail
            refine (noneS q7).mono ?_
            rintro e w8 ⟨rfl, rfl⟩
            go_wp2_with fail
            go_roundw
            case rel => exact ⟨i1 + 1, A7, c7, G7, [], by omega, by go_num, os7, H7⟩
            case measure => simp [intOf]; omega
          · have q7 := os7.que
            go_wp2_with fail
            refine (takeS (x := s) (xs := cellsS Q7) (n := Q7.length) q7).mono ?_
            rintro e w8 ⟨rfl, q8, f8⟩
            have os8 := os_que os7 q8 f8 (.inl rfl)
            clear os7 q7 q8 f8
            have f9 := (Fr.refl (fun _ => False) w8).alloc (.cells #[.string s] 9)
            have os9 := os_none os8 f9
            have hG7 : G7.length + 1 ≤ 1048576 := by
              have := congrArg List.length H7.out
              simp only [List.length_append, List.length_cons] at this
              omega
            have hbase := os9.fr.size
            clear os8 f9
            go_wp2_with (at_builtin; refine wpList_append_wide _ rfl (.tmp 69) (.tmp 71) 44 rfl w.heap.size 9 i0 _ 1 16 Try.underlying44 hi0 hz0 hz1 hz2 rfl (by decide) u9 G7.length (cellsS G7) rfl os9.rg (some ⟨w8.heap.size, 0, none⟩) 1 1 [.string s] rfl rfl (Rd.one w8 (.string s) 9) (cellsS_one [s]) (by unfold maxLen; omega) (by omega) hbase ?_; intro v10 w10 own10 g10 at10; rw [show cellsS G7 ++ [.string s] = cellsS (G7 ++ [s]) by rw [cellsS_append]; rfl, show G7.length + 1 = (G7 ++ [s]).length by simp] at own10; have os10 := os_g os9 own10 g10 at10; clear os9 own10 g10 at10 hbase)
            go_roundw
            case rel => exact ⟨i1 + 1, A7, c7, G7 ++ [s], Q7, by omega, by go_num, os10, by rw [List.append_assoc]; exact H7⟩
            case measure => simp [intOf]; omega
        · go_wp2_with fail
          go_roundw
          case rel => exact ⟨j + 1, A7, c7, P6, G7, Q7, lost6, by omega, by go_num, rfl, os7, H7.out, hPt6⟩
          case measure => simp [intOf]; omega
    · go_wp2_with fail
      refine (lenS hos.que).mono ?_
      rintro e w5 ⟨rfl, rfl⟩
      go_wp2_with fail
      have hP1 : P.length ≤ 1048576 := by have := tot_le l j; omega
      have HPQ := Lib.hid hPQ
      obtain ⟨N, hN⟩ : ∃ N, N = Q.length := ⟨_, rfl⟩
      rw [← hN]
      have HN := Lib.hid hN.symm
      have hN64 : N ≤ 64 := by have := hos.que.fit; omega
      clear hPQ hN hPt
      obtain ⟨wo, rfl⟩ : ∃ wo : World, wo = wr := ⟨_, rfl⟩
      go_loopw [9, 18] (fun vg i wx => ∃ (i1 : Nat) (A : Option Addr) (c : Nat) (G Q : List ByteArray), i = .int .i64 (i1 : Nat) ∧ Hid (i1 + Q.length = N) ∧ Tex w wx br k A c u8 vg P G Q lost ∧ Hid (P = G ++ Q)) (fun _ i _ => N - (intOf i).toNat)
      case atStart => exact ⟨0, A, c, G, Q, rfl, by rw [HN.out, Nat.zero_add]; exact Lib.hid rfl, hos, HPQ⟩
      case round =>
        clear hos HPQ HN
        obtain ⟨i1, A7, c7, G7, Q7, rfl, h7, os7, H7⟩ := hrel
        rcases Q7 with _ | ⟨s, Q7⟩
        · have hi1 : N ≤ i1 := by have := h7.out; simp at this; omega
          have q7 := os7.que
          go_wp2_with fail
          refine (noneS q7).mono ?_
          rintro e w8 ⟨rfl, rfl⟩
          go_wp2_with fail
          refine (lostS q7).mono ?_
          rintro e w8 ⟨rfl, rfl⟩
          have hG : G7 = P := by have := H7.out; rw [List.append_nil] at this; exact this.symm
          subst hG
          obtain ⟨Ap, cp, hvp, _, _, _, _⟩ := wide_form os7.rp
          obtain ⟨Ag, cg, hvg, _, _, _, _⟩ := wide_form os7.rg
          have rp := os7.rp
          have rg := os7.rg
          have fr7 := os7.fr
          clear os7 q7
          subst hvp
          subst hvg
          have KT := sametexts (c := cg) (c' := cp) (wide_rd rg) (wide_rd rp) (by omega)
          go_wp2_with fail
          refine KT.mono ?_
          rintro e w9 ⟨rfl, f9⟩
          go_wp2
          go_ret
          exact ⟨rfl, (own_fr0 fr7 f9).toBelow0⟩
        · have hi1 : i1 < N := by have := h7.out; simp at this; omega
          have q7 := os7.que
          go_wp2_with fail
          refine (takeS (x := s) (xs := cellsS Q7) (n := Q7.length) q7).mono ?_
          rintro e w8 ⟨rfl, q8, f8⟩
          have os8 := os_que os7 q8 f8 (.inl rfl)
          clear os7 q7 q8 f8
          have f9 := (Fr.refl (fun _ => False) w8).alloc (.cells #[.string s] 9)
          have os9 := os_none os8 f9
          have hG7 : G7.length + 1 ≤ 1048576 := by
            have := congrArg List.length H7.out
            simp only [List.length_append, List.length_cons] at this
            omega
          have hbase := os9.fr.size
          clear os8 f9
          go_wp2_with (at_builtin; refine wpList_append_wide _ rfl (.tmp 88) (.tmp 90) 44 rfl w.heap.size 9 i0 _ 1 16 Try.underlying44 hi0 hz0 hz1 hz2 rfl (by decide) u9 G7.length (cellsS G7) rfl os9.rg (some ⟨w8.heap.size, 0, none⟩) 1 1 [.string s] rfl rfl (Rd.one w8 (.string s) 9) (cellsS_one [s]) (by unfold maxLen; omega) (by omega) hbase ?_; intro v10 w10 own10 g10 at10; rw [show cellsS G7 ++ [.string s] = cellsS (G7 ++ [s]) by rw [cellsS_append]; rfl, show G7.length + 1 = (G7 ++ [s]).length by simp] at own10; have os10 := os_g os9 own10 g10 at10; clear os9 own10 g10 at10 hbase)
          go_roundw
          case rel => exact ⟨i1 + 1, A7, c7, G7 ++ [s], Q7, by go_num, Lib.hid (by have := h7.out; simp at this ⊢; omega), os10, by rw [List.append_assoc]; exact H7⟩
          case measure => simp [intOf]; omega
end Go.Proofs.Ytgnbaknmibncmaa

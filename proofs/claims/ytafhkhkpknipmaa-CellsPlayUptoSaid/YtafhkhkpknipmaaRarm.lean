/- The document's Bare and Arm. -/
import Derived.Test.YtafhkhkpknipmaaRerase
namespace Go.Proofs.Ytafhkhkpknipmaa
open Go.RowKit Go.Maps

set_option maxHeartbeats 4000000 in
theorem rbare_any {w : World} {R : Rf} {m : Mm} (h : RM w R m) (p : Int) (hp1 : -9223372036854775808 ≤ p) (hp2 : p ≤ 9223372036854775807) :
    Calls Try.prog 37 #[.pointer (some ⟨R.b, 0, none⟩), .int .i64 p] w fun e w' => e = .returned (.int .i64 (m.bare p : Nat)) ∧ w' = w := by
  have KT := there_any p 0 w
  by_cases hp : 0 ≤ p ∧ p < 24
  · obtain ⟨q, rfl⟩ : ∃ q : Nat, p = q := ⟨p.toNat, by omega⟩
    have hq : q < 24 := by omega
    have HB : Hid (m.bare (q : Int) = bareN (m.pg q) 4096) := Lib.hid (by unfold Mm.bare; rw [if_pos hp]; rfl)
    rw [show decide ((0 ≤ (q : Int) ∧ (q : Int) < 24) ∧ (0 : Int) ≤ 0 ∧ (0 : Int) ≤ 4096) = true by simp; omega] at KT
    have c0 := h.c0
    have co := h.co hq
    have HP := Lib.hid (h.page q hq)
    have hbw := h.lt R.b (.inl rfl)
    have how := h.lt R.ob (.inr (.inr (.inl rfl)))
    have hgw := h.lt (R.g q) (.inr (.inr (.inr (.inl ⟨q, hq, rfl⟩))))
    obtain ⟨N, hN⟩ : ∃ N : Nat, N = 4096 := ⟨_, rfl⟩
    have hN2 : N ≤ 5000 := by omega
    rw [← hN] at co HB
    have HC : Hid (∀ k, k < N → w.cell? ⟨R.g q, k, none⟩ = some (.int .u8 ((m.pg q k).toNat : Int))) := Lib.hid fun k hk => HP.out.cell (by omega)
    clear h hp hp1 hp2 hN HP
    go_enter Try.func37, Try.ntmps37
    go_wp2_with (go_at_call 34; refine KT.mono ?_; rintro e w' ⟨rfl, rfl⟩)
    go_loop [5, 6, 7, 18] (fun v _ _ i => ∃ k : Nat, k ≤ N ∧ i = .int .i64 k ∧ v = .int .i64 (bareN (m.pg q) k : Nat)) (fun _ _ _ i => N - (intOf i).toNat)
    case atStart => exact ⟨0, Nat.zero_le _, rfl, rfl⟩
    case round =>
      obtain ⟨k, hk, rfl, rfl⟩ := hrel
      by_cases hlt : k < N
      · have r1 := HC.out k hlt
        by_cases hx : m.pg q k = 255
        · have ht : (((m.pg q k).toNat : Int) != 255) = false := by rw [hx]; rfl
          have HX : Hid (bareN (m.pg q) (k + 1) = bareN (m.pg q) k) := Lib.hid (by rw [bareN, if_pos hx])
          clear hx
          go_wp2_with fail
          go_round
          case rel => exact ⟨k + 1, by omega, by go_num, by rw [HX.out]⟩
          case measure => simp [intOf]; omega
        · have ht : (((m.pg q k).toNat : Int) != 255) = true := by
            have : (m.pg q k).toNat ≠ 255 := fun e => hx (UInt8.toNat_inj.1 (e.trans rfl))
            simp
            omega
          have HX : Hid (bareN (m.pg q) (k + 1) = k + 1) := Lib.hid (by rw [bareN, if_neg hx])
          clear hx
          go_wp2_with fail
          go_round
          case rel => exact ⟨k + 1, by omega, by go_num, by rw [HX.out]; rfl⟩
          case measure => simp [intOf]; omega
      · have hk4 : k = N := by omega
        subst hk4
        have hle := bareN_le (m.pg q) k
        generalize hbn : bareN (m.pg q) k = bn at *
        clear hbn
        go_wp2_with fail
        go_ret
        exact ⟨by rw [HB.out]; rfl, rfl⟩
  · have HB : Hid (m.bare p = 0) := Lib.hid (by unfold Mm.bare; rw [if_neg hp])
    rw [show decide ((0 ≤ p ∧ p < 24) ∧ (0 : Int) ≤ 0 ∧ (0 : Int) ≤ 4096) = false by rw [decide_eq_false_iff_not]; exact fun k => hp k.1] at KT
    clear hp h
    go_enter Try.func37, Try.ntmps37
    go_wp2_with (go_at_call 34; refine KT.mono ?_; rintro e w' ⟨rfl, rfl⟩)
    go_ret
    exact ⟨by rw [HB.out]; rfl, rfl⟩

theorem Try.infoCut : (Try.prog.info? 50).map (fun i => (i.zero, i.size, i.bytes)) = some (some (.agg #[.int .i64 0, .int .i64 0]), 2, 16) := by kernel_rfl
theorem own_none (w : World) (t : TypeId) (size : Nat) : (w.alloc (.cells #[] t)).ownsRow 0 t size (.slice (some ⟨w.heap.size, 0, none⟩) 0 0) 0 [] :=
  ⟨by simp, .inr ⟨w.heap.size, 0, #[], rfl, Nat.zero_le _, heap_alloc_new w _, Nat.le_refl _, by unfold maxLen; omega, by simp, by simp⟩⟩
theorem cutCells_one : ∀ (l : List (Int × Int)), ∀ u ∈ cutCells l, u.oneCell' = true
  | [], u, h => by cases h
  | c :: r, u, h => by
    simp only [cutCells, List.mem_cons] at h
    rcases h with rfl | rfl | h
    · rfl
    · rfl
    · exact cutCells_one r u h

/-- what was appended to a row of the call's own -/
theorem arm_app {w w1 : World} {R : Rf} {m : Mm} {v' : Value} {n : Nat} {xs : List Value} (h : RM w R m) (hown : w1.ownsRow 0 50 2 v' n xs) (hg : (w.alloc (.cells #[] 50)).grownBy w1 (Value.slice (some ⟨w.heap.size, 0, none⟩) 0 0).ownBlock)
    (hat : v'.ownBlock = (Value.slice (some ⟨w.heap.size, 0, none⟩) 0 0).ownBlock ∨ v'.ownBlock = some (w.alloc (.cells #[] 50)).heap.size) :
    ∃ A' c', v' = .slice A' n c' ∧ (∀ k, blk A' = some k → w.heap.size ≤ k) ∧ Is w1 R.b 57 (R.arr m) ∧ Fr (fun k => k = w.heap.size) w w1 := by
  obtain ⟨A', c', rfl, _, _, _, _⟩ := wide_form hown
  have hb := h.lt R.b (.inl rfl)
  have F : Fr (fun k => k = w.heap.size) w w1 := ((Fr.refl (fun k => k = w.heap.size) w).alloc _).grown hg fun k hk => .inl (by injection hk with hk; exact hk.symm)
  refine ⟨A', c', rfl, fun k hk => ?_, h.is.fr F (by omega), F⟩
  rw [Row.own, Row.own] at hat
  rcases hat with e | e
  · rw [e] at hk
    injection hk with hk
    exact Nat.le_of_eq hk
  · rw [e] at hk
    injection hk with hk
    have : (w.alloc (.cells #[] 50)).heap.size = w.heap.size + 1 := by simp
    omega

/-- the memory behind an arming -/
theorem arm_end {w w1 : World} {R : Rf} {m : Mm} {A' : Option Addr} {c' : Nat} {l : List (Int × Int)} (h : RM w R m) (hA' : ∀ k, blk A' = some k → w.heap.size ≤ k) (is1 : Is w1 R.b 57 (R.arr m)) (F1 : Fr (fun k => k = w.heap.size) w w1)
    (hown : w1.ownsRow 0 50 2 (.slice A' l.length c') l.length (cutCells l)) (hlen : l.length * 16 ≤ 140737488351232) :
    RM ((w1.setCell ⟨R.b, 2, none⟩ (.slice A' l.length c')).setCell ⟨R.b, 3, none⟩ (.int .i64 0)) { R with A := A', c := c', l := l } (m.arm fun i => cutAt l i) ∧
      Fr (fun j => j = R.b) w ((w1.setCell ⟨R.b, 2, none⟩ (.slice A' l.length c')).setCell ⟨R.b, 3, none⟩ (.int .i64 0)) := by
  have hb := h.lt R.b (.inl rfl)
  have f2 := ((Fr.refl (fun j => j = R.b) w1).setCell (p := ⟨R.b, 2, none⟩) (.inl rfl) (.slice A' l.length c')).setCell (p := ⟨R.b, 3, none⟩) (.inl rfl) (.int .i64 0)
  have i2 := (is1.set 2 (.slice A' l.length c')).set 3 (.int .i64 0)
  have e : ((R.arr m).setIfInBounds 2 (.slice A' l.length c')).setIfInBounds 3 (.int .i64 0) = Rf.arr { R with A := A', c := c', l := l } (m.arm fun i => cutAt l i) := by
    have e1 : (0 : Int) = ((m.acts - m.acts : Nat) : Int) := by omega
    unfold Rf.arr
    show _ = #[_, _, _, Value.int .i64 ((m.acts - m.acts : Nat) : Int), _, _]
    rw [← e1]
    rfl
  rw [e] at i2
  have F : Fr (fun j => j = R.b ∨ j = w.heap.size) w ((w1.setCell ⟨R.b, 2, none⟩ (.slice A' l.length c')).setCell ⟨R.b, 3, none⟩ (.int .i64 0)) := (F1.mono fun j _ hj => .inr hj).trans f2 fun j _ hj => .inl hj
  have F0 : Fr (fun j => j = R.b) w ((w1.setCell ⟨R.b, 2, none⟩ (.slice A' l.length c')).setCell ⟨R.b, 3, none⟩ (.int .i64 0)) := F.mono fun j hj k => k.elim id fun e => by omega
  refine ⟨?_, F0⟩
  obtain ⟨os, ho1, ho2⟩ := h.outer
  obtain ⟨ws, hw1, hw2, hw3⟩ := h.wear
  have n1 : R.ob ≠ R.b := is_ne ho1 h.is (by decide)
  have n2 : R.wb ≠ R.b := is_ne hw1 h.is (by decide)
  have n3 : ∀ p, p < 24 → R.g p ≠ R.b := fun p hp => by
    obtain ⟨cs, hw, _⟩ := h.page p hp
    exact is_ne hw h.is (by decide)
  have old : ∀ j, R.all j → j < w.heap.size := h.lt
  have own2 := wide_fr hown f2 fun k hk e => by
    rw [Row.own] at hk
    have := hA' k hk
    omega
  refine ⟨i2, ⟨os, ho1.fr F0 n1, ho2⟩, fun p hp => (h.page p hp).fr F0 (n3 p hp), h.wear.fr F0 n2, wide_rd own2, fun k hk => ?_, h.inj, fun _ i => rfl, Nat.le_refl _, h.hi, (show l.length ≤ 140737488355328 by omega), fun j hj => ?_⟩
  · have hk' := hA' k hk
    exact ⟨fun e => by have e' : k = R.b := e; omega, fun e => by have e' : k = R.wb := e; have := old R.wb (.inr (.inl rfl)); omega, fun p hp e => by have e' : k = R.g p := e; have := old (R.g p) (.inr (.inr (.inr (.inl ⟨p, hp, rfl⟩)))); omega⟩
  · rcases hj with hj | hj | hj | hj | hj
    · exact Nat.lt_of_lt_of_le (old j (.inl hj)) F0.size
    · exact Nat.lt_of_lt_of_le (old j (.inr (.inl hj))) F0.size
    · exact Nat.lt_of_lt_of_le (old j (.inr (.inr (.inl hj)))) F0.size
    · exact Nat.lt_of_lt_of_le (old j (.inr (.inr (.inr (.inl hj))))) F0.size
    · exact wide_lt own2 j (by rw [Row.own]; exact hj)

set_option maxHeartbeats 4000000 in
theorem rarm_any {w : World} {R : Rf} {m : Mm} (h : RM w R m) {A : Option Addr} {c : Nat} {l : List (Int × Int)} (hl : Rd w A (cutCells l)) (hlen : l.length * 16 ≤ 140737488351232) :
    Calls Try.prog 20 #[.pointer (some ⟨R.b, 0, none⟩), .slice A l.length c] w fun e w' => e = .returned (.tuple #[]) ∧ ∃ A' c', RM w' { R with A := A', c := c', l := l } (m.arm fun i => cutAt l i) ∧ Fr (fun j => j = R.b) w w' ∧ ∀ k, blk A' = some k → w.heap.size ≤ k := by
  have hbw := h.lt R.b (.inl rfl)
  have gf := h.frz
  have g2 := h.c2
  have g3 := h.c3
  have g4 := h.c4
  have g5 := h.c5
  have HM := Lib.hid h
  obtain ⟨i0, hi0, hz0, hz1, hz2⟩ := info_parts Try.infoCut
  have hn := own_none w 50 2
  have hl1 : Rd (w.alloc (.cells #[] 50)) A (cutCells l) := fun h0 => by
    obtain ⟨b', o, hA, hb, hc⟩ := hl h0
    exact ⟨b', o, hA, by simp; omega, fun j u hu => (((Fr.refl (fun _ => False) w).alloc _).cell (p := ⟨b', o + j, none⟩) hb id).trans (hc j u hu)⟩
  clear h
  go_enter Try.func20, Try.ntmps20
  go_wp2_with (at_builtin; refine wpList_append_wide _ rfl (.tmp 6) (.tmp 7) 29 rfl 0 50 i0 _ 2 16 Try.underlying29 hi0 hz0 hz1 hz2 rfl (by decide) (.slice (some ⟨w.heap.size, 0, none⟩) 0 0) 0 [] (by simp [Act.eval]) hn A c l.length (cutCells l) (cutCells_length l) (by simp [Act.eval]) hl1 (cutCells_one l) (by unfold maxLen; omega) (by omega) (Nat.zero_le _) ?_; intro v' w1 hown hg hat; obtain ⟨A', c', rfl, hA', is1, F1⟩ := arm_app HM.out hown hg hat; have q2 := is1.cell 2; have q3 := is1.cell 3; have qf := is1.frozen; have qb := is1.lt; have HI1 := Lib.hid is1; have HF1 := Lib.hid F1; have HO := Lib.hid hown; clear hown hg hat is1 F1 g2 g3 g4 g5 hn hl1 gf)
  all_goals
    go_end0
    have hown := HO.out
    rw [Nat.zero_add, List.nil_append] at hown
    obtain ⟨M2, F2⟩ := arm_end HM.out hA' HI1.out HF1.out hown hlen
    exact ⟨rfl, A', c', M2, F2, hA'⟩
end Go.Proofs.Ytafhkhkpknipmaa

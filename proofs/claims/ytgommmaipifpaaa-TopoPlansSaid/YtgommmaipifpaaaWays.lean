/- The contracts of Way and Pos: by which end a train goes out, in which position. -/
import Derived.Test.YtgommmaipifpaaaLeaf
namespace Go.Proofs.Ytgommmaipifpaaa
open Go.RowKit

theorem cellsW_at {l : List Wy} {j : Nat} (h : j < l.length) : (cellsW l)[j * 3]? = some (.int .i64 l[j].a) ∧ (cellsW l)[j * 3 + 1]? = some (.int .i64 l[j].b) ∧ (cellsW l)[j * 3 + 2]? = some (.int .i64 l[j].pos) := by
  induction l generalizing j with
  | nil => simp at h
  | cons v r ih =>
    have e : cellsW (v :: r) = [.int .i64 v.a, .int .i64 v.b, .int .i64 v.pos] ++ cellsW r := rfl
    rcases j with _ | j
    · rw [e]; simp
    · have := ih (j := j) (by simpa using h)
      rw [e, show (j + 1) * 3 = 3 + j * 3 by omega, show 3 + j * 3 + 1 = 3 + (j * 3 + 1) by omega, show 3 + j * 3 + 2 = 3 + (j * 3 + 2) by omega]
      rw [List.getElem?_append_right (by simp), List.getElem?_append_right (by simp), List.getElem?_append_right (by simp)]
      simpa using this
theorem rd_ways {w : World} {A : Option Addr} {l : List Wy} (h : Rd w A (cellsW l)) {j : Nat} (hj : j < l.length) : ∃ g o, A = some ⟨g, o, none⟩ ∧ w.cell? ⟨g, o + j * 3, none⟩ = some (.int .i64 l[j].a) ∧ w.cell? ⟨g, o + j * 3 + 1, none⟩ = some (.int .i64 l[j].b) ∧ w.cell? ⟨g, o + j * 3 + 2, none⟩ = some (.int .i64 l[j].pos) := by
  obtain ⟨h0, h1, h2⟩ := cellsW_at hj
  obtain ⟨g, o, rfl, _, hc⟩ := h (by have := (List.getElem?_eq_some_iff.1 h0).1; omega)
  exact ⟨g, o, rfl, hc _ _ h0, hc _ _ h1, hc _ _ h2⟩
theorem ways_short (k : Int) : (waysM k).length ≤ 2 := by
  unfold waysM
  split
  · simp
  · split
    · simp
    · split <;> simp

theorem fr_nil {w w1 w2 : World} (f1 : Fr (fun _ => False) w w1) (f2 : Fr (fun _ => False) w1 w2) : Fr (fun _ => False) w w2 := f1.trans f2 fun _ _ h => h

set_option maxHeartbeats 1000000 in
theorem way_any (k i p : Int) (w : World) : Calls Try.prog 15 #[.int .i64 k, .int .i64 i, .int .i64 p] w fun e w' => e = .returned (.tuple #[.int .i64 (wayOut k i p), .bool (wayOk k i p)]) ∧ Fr (fun _ => False) w w' := by
  unfold wayOut wayOk
  have KW := ways_any k
  have hs := ways_short k
  generalize waysM k = l at *
  generalize hO : wayOutL l i p = O
  generalize hK : wayOkL l i p = K
  have HO := Lib.hid hO
  have HK := Lib.hid hK
  clear hO hK
  go_enter Try.func15, Try.ntmps15
  go_wp2_with fail
  refine (KW _).mono ?_
  clear KW
  rintro e w1 ⟨A, c, rfl, hr, hc, f1⟩
  go_wp2_with fail
  go_loopw [15] (fun t wr => ∃ j : Nat, j ≤ l.length ∧ t = .int .i64 (j : Nat) ∧ wayOutL (l.drop j) i p = O ∧ wayOkL (l.drop j) i p = K ∧ Fr (fun _ => False) w1 wr) (fun t _ => l.length - (intOf t).toNat)
  case atStart => exact ⟨0, Nat.zero_le _, rfl, HO.out, HK.out, Fr.refl _ _⟩
  case round =>
    obtain ⟨j, hj, rfl, hO, hK, fr⟩ := hrel
    by_cases hlt : j < l.length
    · obtain ⟨g, o, rfl, c0, c1, c2⟩ := rd_ways (hr.fr fr fun _ _ => id) hlt
      rw [List.drop_eq_getElem_cons hlt, wayOutL] at hO
      rw [List.drop_eq_getElem_cons hlt, wayOkL] at hK
      generalize l[j] = v at *
      have HF := fun w => from_any v i w
      have HP := fun w => open_any v p w
      generalize hfo : farOut v i = fo at *
      have HFO := Lib.hid hfo
      clear hfo hr
      cases hf : farOk v i
      · rw [hf] at hO hK HF
        have hO' : wayOutL (l.drop (j + 1)) i p = O := by simpa using hO
        have hK' : wayOkL (l.drop (j + 1)) i p = K := by simpa using hK
        have HO1 := Lib.hid hO'
        have HK1 := Lib.hid hK'
        clear hO hK hO' hK' hf HP
        go_wp2_with fail
        refine (HF _).mono ?_
        clear HF
        rintro e w3 ⟨rfl, f3⟩
        go_wp2_with fail
        go_roundw
        case rel => exact ⟨j + 1, by omega, by go_num, HO1.out, HK1.out, fr_nil ((fr.alloc _)) f3⟩
        case measure => simp [intOf]; omega
      · rw [hf] at hO hK HF
        cases hp : opn v p
        · rw [hp] at hO hK HP
          have hO' : wayOutL (l.drop (j + 1)) i p = O := by simpa using hO
          have hK' : wayOkL (l.drop (j + 1)) i p = K := by simpa using hK
          have HO1 := Lib.hid hO'
          have HK1 := Lib.hid hK'
          clear hO hK hO' hK' hf hp
          go_wp2_with fail
          refine (HF _).mono ?_
          clear HF
          rintro e w3 ⟨rfl, f3⟩
          have g1 := fr_nil (fr.alloc (.cells #[.int .i64 v.a, .int .i64 v.b, .int .i64 v.pos] 60)) f3
          have k0 := f3.cell (p := ⟨wr.heap.size, 0, none⟩) (by simp) id
          have k1 := f3.cell (p := ⟨wr.heap.size, 1, none⟩) (by simp) id
          have k2 := f3.cell (p := ⟨wr.heap.size, 2, none⟩) (by simp) id
          simp [World.cell?_alloc_at] at k0 k1 k2
          clear f3
          go_wp2_with fail
          refine (HP _).mono ?_
          clear HP
          rintro e w4 ⟨rfl, f4⟩
          have g2 := fr_nil g1 f4
          clear g1 f4
          go_wp2_with fail
          go_roundw
          case rel => exact ⟨j + 1, by omega, by go_num, HO1.out, HK1.out, g2⟩
          case measure => simp [intOf]; omega
        · rw [hp] at hO hK HP
          have hO' : fo = O := by simpa using hO
          have hK' : true = K := by simpa using hK
          subst hO' hK'
          clear hO hK hf hp HO HK
          go_wp2_with fail
          refine (HF _).mono ?_
          clear HF
          rintro e w3 ⟨rfl, f3⟩
          have g1 := fr_nil (fr.alloc (.cells #[.int .i64 v.a, .int .i64 v.b, .int .i64 v.pos] 60)) f3
          have k0 := f3.cell (p := ⟨wr.heap.size, 0, none⟩) (by simp) id
          have k1 := f3.cell (p := ⟨wr.heap.size, 1, none⟩) (by simp) id
          have k2 := f3.cell (p := ⟨wr.heap.size, 2, none⟩) (by simp) id
          simp [World.cell?_alloc_at] at k0 k1 k2
          clear f3
          go_wp2_with fail
          refine (HP _).mono ?_
          clear HP
          rintro e w4 ⟨rfl, f4⟩
          have g2 := fr_nil f1 (fr_nil g1 f4)
          clear g1 f4
          go_wp2_with fail
          go_ret2
          exact ⟨rfl, g2⟩
    · have hjl : j = l.length := by omega
      subst hjl
      rw [List.drop_length] at hO hK
      have hO' : 0 = O := hO
      have hK' : false = K := hK
      subst hO' hK'
      clear hO hK HO HK
      go_wp2_with fail
      go_ret2
      exact ⟨rfl, fr_nil f1 fr⟩

set_option maxHeartbeats 1000000 in
theorem pos_any (k i p : Int) (w : World) : Calls Try.prog 17 #[.int .i64 k, .int .i64 i, .int .i64 p] w fun e w' => e = .returned (.tuple #[.int .i64 (posOut k i p), .bool (posOk k i p)]) ∧ Fr (fun _ => False) w w' := by
  unfold posOut posOk
  have KW := ways_any k
  have hs := ways_short k
  generalize waysM k = l at *
  generalize hO : posOutL l i p = O
  generalize hK : posOkL l i p = K
  have HO := Lib.hid hO
  have HK := Lib.hid hK
  clear hO hK
  go_enter Try.func17, Try.ntmps17
  go_wp2_with fail
  refine (KW _).mono ?_
  clear KW
  rintro e w1 ⟨A, c, rfl, hr, hc, f1⟩
  go_wp2_with fail
  go_loopw [15] (fun t wr => ∃ j : Nat, j ≤ l.length ∧ t = .int .i64 (j : Nat) ∧ posOutL (l.drop j) i p = O ∧ posOkL (l.drop j) i p = K ∧ Fr (fun _ => False) w1 wr) (fun t _ => l.length - (intOf t).toNat)
  case atStart => exact ⟨0, Nat.zero_le _, rfl, HO.out, HK.out, Fr.refl _ _⟩
  case round =>
    obtain ⟨j, hj, rfl, hO, hK, fr⟩ := hrel
    by_cases hlt : j < l.length
    · obtain ⟨g, o, rfl, c0, c1, c2⟩ := rd_ways (hr.fr fr fun _ _ => id) hlt
      rw [List.drop_eq_getElem_cons hlt, posOutL] at hO
      rw [List.drop_eq_getElem_cons hlt, posOkL] at hK
      generalize l[j] = v at *
      have HF := fun w => from_any v i w
      generalize hfo : farOut v i = fo at *
      have HFO := Lib.hid hfo
      clear hfo hr
      cases hf : farOk v i
      · rw [hf] at hO hK HF
        have hO' : posOutL (l.drop (j + 1)) i p = O := by simpa using hO
        have hK' : posOkL (l.drop (j + 1)) i p = K := by simpa using hK
        have HO1 := Lib.hid hO'
        have HK1 := Lib.hid hK'
        clear hO hK hO' hK' hf
        go_wp2_with fail
        refine (HF _).mono ?_
        clear HF
        rintro e w3 ⟨rfl, f3⟩
        go_wp2_with fail
        go_roundw
        case rel => exact ⟨j + 1, by omega, by go_num, HO1.out, HK1.out, fr_nil ((fr.alloc _)) f3⟩
        case measure => simp [intOf]; omega
      · rw [hf] at hO hK HF
        by_cases hp : fo = p
        · subst hp
          have hO' : v.pos = O := by simpa using hO
          have hK' : true = K := by simpa using hK
          subst hO' hK'
          have e1 : (fo == fo) = true := by simp
          clear hO hK hf HO HK
          go_wp2_with fail
          refine (HF _).mono ?_
          clear HF
          rintro e w3 ⟨rfl, f3⟩
          have g1 := fr_nil (fr.alloc (.cells #[.int .i64 v.a, .int .i64 v.b, .int .i64 v.pos] 60)) f3
          have k2 := f3.cell (p := ⟨wr.heap.size, 2, none⟩) (by simp) id
          simp [World.cell?_alloc_at] at k2
          clear f3
          have g2 := fr_nil f1 g1
          clear g1
          go_wp2_with fail
          go_ret2
          exact ⟨rfl, g2⟩
        · have hO' : posOutL (l.drop (j + 1)) i p = O := by simpa [hp] using hO
          have hK' : posOkL (l.drop (j + 1)) i p = K := by simpa [hp] using hK
          have HO1 := Lib.hid hO'
          have HK1 := Lib.hid hK'
          have e1 : (fo == p) = false := by simp [hp]
          clear hO hK hO' hK' hf hp
          go_wp2_with fail
          refine (HF _).mono ?_
          clear HF
          rintro e w3 ⟨rfl, f3⟩
          go_wp2_with fail
          go_roundw
          case rel => exact ⟨j + 1, by omega, by go_num, HO1.out, HK1.out, fr_nil (fr.alloc _) f3⟩
          case measure => simp [intOf]; omega
    · have hjl : j = l.length := by omega
      subst hjl
      rw [List.drop_length] at hO hK
      have hO' : 0 = O := hO
      have hK' : false = K := hK
      subst hO' hK'
      clear hO hK HO HK
      go_wp2_with fail
      go_ret2
      exact ⟨rfl, fr_nil f1 fr⟩
end Go.Proofs.Ytgommmaipifpaaa

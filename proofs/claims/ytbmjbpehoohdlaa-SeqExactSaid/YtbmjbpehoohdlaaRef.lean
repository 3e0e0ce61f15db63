/- The contracts of the document's own functions: Of, Gap, Lost, and of SameInts. -/
import Derived.Test.YtbmjbpehoohdlaaSums
import Derived.Deep.QuietTactic
namespace Go.Proofs.Ytbmjbpehoohdlaa
open Go.RowKit

set_option maxHeartbeats 800000 in
theorem sameints_any {w : World} {A A' : Option Addr} {c c' : Nat} {l : List Int} (hl : Rd w A (l.map (Value.int .i64))) (hl' : Rd w A' (l.map (Value.int .i64))) (hlen : l.length ≤ 140737488355328) :
    Calls Try.prog 18 #[.slice A l.length c, .slice A' l.length c'] w fun e w' => e = .returned (.bool true) ∧ Fr (fun _ => False) w w' := by
  go_enter Try.func18, Try.ntmps18
  go_wp2
  go_loopw [13] (fun i wr => ∃ k, k ≤ l.length ∧ i = .int .i64 (k : Nat) ∧ Fr (fun _ => False) w wr) (fun i _ => l.length - (intOf i).toNat)
  case atStart => exact ⟨0, Nat.zero_le _, rfl, Fr.refl _ _⟩
  case round =>
    obtain ⟨k, hk, rfl, g1⟩ := hrel
    by_cases hlt : k < l.length
    · obtain ⟨g, o, rfl, hg, hc⟩ := hl (by simp; omega)
      obtain ⟨g', o', rfl, hg', hc'⟩ := hl' (by simp; omega)
      have e1 := hc k (.int .i64 l[k]) (by rw [List.getElem?_map, List.getElem?_eq_getElem hlt]; rfl)
      have e2 := hc' k (.int .i64 l[k]) (by rw [List.getElem?_map, List.getElem?_eq_getElem hlt]; rfl)
      have c1 : wr.cell? ⟨g, o + k, none⟩ = some (.int .i64 l[k]) := (g1.cell (p := ⟨g, o + k, none⟩) hg id).trans e1
      have c2 : wr.cell? ⟨g', o' + k, none⟩ = some (.int .i64 l[k]) := (g1.cell (p := ⟨g', o' + k, none⟩) hg' id).trans e2
      clear hc hc' e1 e2 hl hl'
      generalize l[k] = x at *
      go_wp2
      go_quiet (fail)
      go_wp2
      go_roundw
      case rel => exact ⟨k + 1, by omega, by go_num, g1.drewN nq⟩
      case measure => simp [intOf]; omega
    · go_wp2
      go_ret
      exact ⟨rfl, g1⟩

theorem tmod_of (n : Int) : (if n.tmod 65536 < 0 then n.tmod 65536 + 65536 else n.tmod 65536) = ofZ n := by
  unfold ofZ
  have h := Int.tmod_def n 65536
  by_cases h0 : 0 ≤ n
  · rw [Int.tmod_eq_emod_of_nonneg h0, if_neg (by omega)]
  · have e : n.tmod 65536 = -((-n) % 65536) := by
      rw [← Int.tmod_eq_emod_of_nonneg (by omega : 0 ≤ -n), Int.neg_tmod, Int.neg_neg]
    rw [e]
    split <;> omega
theorem tmod_bd (n : Int) : -65536 < n.tmod 65536 ∧ n.tmod 65536 < 65536 := by
  by_cases h0 : 0 ≤ n
  · rw [Int.tmod_eq_emod_of_nonneg h0]; omega
  · have e : n.tmod 65536 = -((-n) % 65536) := by
      rw [← Int.tmod_eq_emod_of_nonneg (by omega : 0 ≤ -n), Int.neg_tmod, Int.neg_neg]
    rw [e]; omega

theorem rof_any (n : Int) (w : World) : Calls Try.prog 11 #[.int .i64 n] w fun e w' => e = .returned (.int .i64 (ofZ n)) ∧ w' = w := by
  have hb := tmod_bd n
  have he := tmod_of n
  go_enter Try.func11, Try.ntmps11
  go_wp2_with fail
  · rw [if_pos (by assumption)] at he
    go_ret
    exact ⟨congrArg (fun x => Ending.returned (.int .i64 x)) he, rfl⟩
  · rw [if_neg (by omega)] at he
    go_ret
    exact ⟨congrArg (fun x => Ending.returned (.int .i64 x)) he, rfl⟩
theorem gap_ref (a b : Int) : (if 32768 ≤ ofZ (ofZ b - ofZ a) then ofZ (ofZ b - ofZ a) - 65536 else ofZ (ofZ b - ofZ a)) = gapZ a b := by
  unfold gapZ ofZ
  split <;> omega
theorem rgap_any (a b : Int) (w : World) : Calls Try.prog 14 #[.int .i64 a, .int .i64 b] w fun e w' => e = .returned (.int .i64 (gapZ a b)) ∧ w' = w := by
  have K1 := rof_any a
  have K2 := rof_any b
  have K3 := rof_any (ofZ b - ofZ a)
  have he := gap_ref a b
  have h1 := of_bd a
  have h2 := of_bd b
  have h3 := of_bd (ofZ b - ofZ a)
  generalize ofZ (ofZ b - ofZ a) = d at *
  generalize ofZ a = x at *
  generalize ofZ b = y at *
  have HE := Lib.hid he
  clear he
  go_enter Try.func14, Try.ntmps14
  go_wp2_with fail
  refine (K2 _).mono ?_
  clear K2
  rintro e w1 ⟨rfl, rfl⟩
  go_wp2_with fail
  refine (K1 _).mono ?_
  clear K1
  rintro e w1 ⟨rfl, rfl⟩
  go_wp2_with fail
  refine (K3 _).mono ?_
  clear K3
  rintro e w1 ⟨rfl, rfl⟩
  have he := HE.out
  by_cases hd : 32768 ≤ d
  · rw [if_pos hd] at he
    clear HE
    go_wp2_with fail
    go_ret
    exact ⟨rfl, rfl⟩
  · rw [if_neg hd] at he
    clear HE
    go_wp2_with fail
    go_ret
    exact ⟨rfl, rfl⟩

/-- (lost so far, the last one taken), nought and nought at first -/
def pairL : List Int → Int × Int
  | [] => (0, 0)
  | x :: r => lostFrom x r
theorem pair_lost (l : List Int) : (pairL l).1 = lostL l := by cases l <;> rfl
theorem pair_snoc (x : Int) (r : List Int) (y : Int) : pairL (x :: r ++ [y]) = lostStep (pairL (x :: r)) y := lostFrom_snoc x r y
theorem pair_bd (l : List Int) : 0 ≤ (pairL l).1 ∧ (pairL l).1 ≤ (l.length : Int) * 32767 := by
  cases l with
  | nil => simp [pairL]
  | cons x r =>
    have := lostFrom_bd x r
    rw [List.length_cons]
    show 0 ≤ (lostFrom x r).1 ∧ (lostFrom x r).1 ≤ _
    omega

set_option maxHeartbeats 800000 in
theorem rlost_any {A : Option Addr} {c : Nat} {l : List Int} {w : World} (h : Rd w A (l.map (Value.int .i64))) (hl : l.length ≤ 17592186044416) :
    Calls Try.prog 17 #[.slice A l.length c] w fun e w' => e = .returned (.int .i64 (lostL l)) ∧ w' = w := by
  go_enter Try.func17, Try.ntmps17
  go_wp2_with fail
  go_loop [3, 4, 10] (fun s t i => ∃ k, k ≤ l.length ∧ i = .int .i64 (k : Nat) ∧ s = .int .i64 (pairL (l.take k)).1 ∧ t = .int .i64 (pairL (l.take k)).2) (fun _ _ i => l.length - (intOf i).toNat)
  case atStart => exact ⟨0, Nat.zero_le _, rfl, rfl, rfl⟩
  case round =>
    obtain ⟨k, hk, rfl, rfl, rfl⟩ := hrel
    by_cases hlt : k < l.length
    · obtain ⟨g, o, rfl, hg, hc⟩ := h (by simp; omega)
      have c1 : w.cell? ⟨g, o + k, none⟩ = some (.int .i64 l[k]) := hc k _ (by rw [List.getElem?_map, List.getElem?_eq_getElem hlt]; rfl)
      have ht : l.take (k + 1) = l.take k ++ [l[k]] := List.take_succ_eq_append_getElem hlt
      by_cases h0 : k = 0
      · subst h0
        have hsn : pairL (l.take (0 + 1)) = ((0 : Int), l[0]) := by rw [ht]; rfl
        have c2 : w.cell? ⟨g, o, none⟩ = some (.int .i64 l[0]) := c1
        generalize l[0] = y at *
        have HS := Lib.hid hsn
        clear hc ht hsn h c1
        rw [show pairL (l.take 0) = ((0 : Int), (0 : Int)) from rfl]
        go_wp2
        go_round
        case rel => exact ⟨0 + 1, by omega, by go_num, by rw [HS.out], by rw [HS.out]⟩
        case measure => simp [intOf]; omega
      · obtain ⟨x, r, hxr⟩ : ∃ x r, l.take k = x :: r := by
          rcases hq : l.take k with _ | ⟨x, r⟩
          · have := congrArg List.length hq
            rw [List.length_take, List.length_nil] at this
            omega
          · exact ⟨x, r, rfl⟩
        have hsn : pairL (l.take (k + 1)) = lostStep (pairL (l.take k)) l[k] := by rw [ht, hxr, pair_snoc]
        have hbd := pair_bd (l.take k)
        have hL : (l.take k).length ≤ 17592186044416 := by rw [List.length_take]; omega
        generalize pairL (l.take k) = p at *
        obtain ⟨s, t⟩ := p
        generalize l[k] = y at *
        generalize (l.take k).length = L at *
        simp only at hbd
        have hg := gap_bd t y
        have K2 := rgap_any t y w
        have hk0 : ((k : Int) == 0) = false := by simp; omega
        by_cases hpos : 0 < gapZ t y
        · have hst : lostStep (s, t) y = (s + (gapZ t y - 1), y) := by unfold lostStep; rw [if_pos hpos]
          rw [hst] at hsn
          generalize gapZ t y = z at *
          have HS := Lib.hid hsn
          clear hc hsn hst ht h hxr
          go_wp2_with fail
          refine K2.mono ?_
          clear K2
          rintro e w1 ⟨rfl, rfl⟩
          go_wp2
          go_round
          case rel => exact ⟨k + 1, by omega, by go_num, by rw [HS.out], by rw [HS.out]⟩
          case measure => simp [intOf]; omega
        · have hst : lostStep (s, t) y = (s, t) := by unfold lostStep; rw [if_neg hpos]
          rw [hst] at hsn
          generalize gapZ t y = z at *
          have HS := Lib.hid hsn
          clear hc hsn hst ht h hxr
          go_wp2_with fail
          refine K2.mono ?_
          clear K2
          rintro e w1 ⟨rfl, rfl⟩
          go_wp2
          go_round
          case rel => exact ⟨k + 1, by omega, by go_num, by rw [HS.out], by rw [HS.out]⟩
          case measure => simp [intOf]; omega
    · have hk' : k = l.length := by omega
      subst hk'
      rw [List.take_length]
      go_wp2
      go_ret
      exact ⟨congrArg (fun x => Ending.returned (.int .i64 x)) (pair_lost l), rfl⟩
end Go.Proofs.Ytbmjbpehoohdlaa

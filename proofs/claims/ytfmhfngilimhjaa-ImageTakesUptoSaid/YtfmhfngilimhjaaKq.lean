/- Contracts and plain mathematics of earlier stages: Qnum, Qlost, Qref. -/
import Derived.Test.YtfmhfngilimhjaaKa
import Derived.Laws.BitsAllLaws
import Derived.Deep.QuietTactic
namespace Go.Proofs.Ytfmhfngilimhjaa.Sq
open Go.RowKit

/-- the number from 0 to 65535 that is meant -/
def ofZ (n : Int) : Int := n % 65536
/-- how far b lies behind a -/
def gapZ (a b : Int) : Int := (b - a + 32768) % 65536 - 32768

theorem wrap_i16 (n : Int) : IntKind.i16.wrap n = (n + 32768) % 65536 - 32768 := by
  have h : IntKind.i16.wrap n = if (decide (32768 ≤ n % 65536)) = true then n % 65536 - 65536 else n % 65536 := rfl
  rw [h]
  by_cases k : 32768 ≤ n % 65536
  · rw [if_pos (decide_eq_true k)]; omega
  · rw [if_neg (by simpa using k)]; omega
theorem of_wrap (n : Int) : wrap64 (IntKind.u16.wrap n) = ofZ n := by
  rw [IntKind.wrap_u16]
  unfold wrap64 ofZ
  omega
theorem gap_wrap (a b : Int) : wrap64 (IntKind.i16.wrap (wrap64 (b - a))) = gapZ a b := by
  rw [wrap_i16]
  unfold wrap64 gapZ
  omega
theorem of_next (n : Int) : ofZ (wrap64 (n + 1)) = ofZ (n + 1) := by
  unfold wrap64 ofZ
  omega
theorem of_bd (n : Int) : 0 ≤ ofZ n ∧ ofZ n < 65536 := by unfold ofZ; omega
theorem gap_bd (a b : Int) : -32768 ≤ gapZ a b ∧ gapZ a b < 32768 := by unfold gapZ; omega

theorem gap_any (a b : Int) (w : World) : Calls Try.prog 119 #[.int .i64 a, .int .i64 b] w fun e w' => e = .returned (.int .i64 (gapZ a b)) ∧ w' = w := by
  go_enter Try.func119, Try.ntmps119
  go_wp2_with fail
  go_ret
  exact ⟨congrArg (fun x => Ending.returned (.int .i64 x)) (gap_wrap a b), rfl⟩
theorem newer_any (a b : Int) (w : World) : Calls Try.prog 109 #[.int .i64 a, .int .i64 b] w fun e w' => e = .returned (.bool (decide (0 < gapZ a b))) ∧ w' = w := by
  go_enter Try.func109, Try.ntmps109
  go_wp2_with fail
  refine (gap_any a b w).mono ?_
  rintro e w1 ⟨rfl, rfl⟩
  go_wp2
  go_ret
  exact ⟨rfl, rfl⟩
end Go.Proofs.Ytfmhfngilimhjaa.Sq

namespace Go.Proofs.Ytfmhfngilimhjaa.Sq
open Go.RowKit

/-- one number more: (lost so far, the last one taken) -/
def lostStep (p : Int × Int) (x : Int) : Int × Int := if 0 < gapZ p.2 x then (p.1 + (gapZ p.2 x - 1), x) else p
/-- how many are lost behind x -/
def lostFrom (x : Int) (l : List Int) : Int × Int := l.foldl lostStep (0, x)
def lostL : List Int → Int
  | [] => 0
  | x :: r => (lostFrom x r).1
theorem lostFrom_snoc (x : Int) (l : List Int) (y : Int) : lostFrom x (l ++ [y]) = lostStep (lostFrom x l) y := by unfold lostFrom; rw [List.foldl_append]; rfl
theorem lost_go (l : List Int) : ∀ p : Int × Int, p.1 ≤ (l.foldl lostStep p).1 ∧ (l.foldl lostStep p).1 ≤ p.1 + (l.length : Int) * 32767 := by
  induction l with
  | nil => intro p; simp
  | cons y l ih =>
    intro p
    have k := ih (lostStep p y)
    rw [List.foldl_cons, List.length_cons]
    generalize List.foldl lostStep (lostStep p y) l = q at *
    have h := gap_bd p.2 y
    unfold lostStep at k
    split at k <;> omega
theorem lostFrom_bd (x : Int) (l : List Int) : 0 ≤ (lostFrom x l).1 ∧ (lostFrom x l).1 ≤ (l.length : Int) * 32767 := by
  have := lost_go l (0, x)
  unfold lostFrom
  simp only at this
  omega

theorem tail_slice {w : World} {g o c : Nat} {x : Int} {r : List Int} (h : Rd w (some ⟨g, o, none⟩) ((x :: r).map (Value.int .i64))) (hc : r.length + 1 ≤ c) :
    ∃ A2 c2, (∀ W, (Instr.slice 25 (.slice (some ⟨g, o, none⟩) (r.length + 1) c) (some (.int .i64 1)) none none).run Try.prog W = .ok (.slice A2 r.length c2) W) ∧ Rd w A2 (r.map (Value.int .i64)) := by
  obtain ⟨g', o', hA, hg, hcell⟩ := h (by simp)
  injection hA with hA
  injection hA with e1 e2
  subst e1 e2
  by_cases hc1 : c = 1
  · subst hc1
    have hr : r = [] := List.eq_nil_of_length_eq_zero (by omega)
    subst hr
    refine ⟨some ⟨g, o, none⟩, 0, fun W => ?_, fun h0 => by simp at h0⟩
    go_simp
  · refine ⟨some ⟨g, o + 1, none⟩, c - 1, fun W => ?_, fun h0 => ⟨g, o + 1, rfl, hg, fun j u hu => ?_⟩⟩
    · have h1 : (r.length : Int) + 1 ≤ (c : Int) := by omega
      have h2 : ¬ (r.length : Int) + 1 < 1 := by omega
      go_simp
    · have := hcell (j + 1) u (by rw [List.map_cons, List.getElem?_cons_succ]; exact hu)
      rw [show o + 1 + j = o + (j + 1) by omega]
      exact this

set_option maxHeartbeats 800000 in
theorem lost_any {A : Option Addr} {c : Nat} {l : List Int} {w : World} (h : Rd w A (l.map (Value.int .i64))) (hc : l.length ≤ c) (hl : l.length ≤ 17592186044416) :
    Calls Try.prog 108 #[.slice A l.length c] w fun e w' => e = .returned (.int .i64 (lostL l)) ∧ ∃ n, w' = w.drewN n := by
  rcases l with _ | ⟨x, r⟩
  · go_enter Try.func108, Try.ntmps108
    go_wp2_with fail
    go_ret
    exact ⟨rfl, 0, rfl⟩
  · obtain ⟨g, o, rfl, hg, hcell⟩ := h (by simp)
    have c0 : w.cell? ⟨g, o, none⟩ = some (.int .i64 x) := hcell 0 _ rfl
    obtain ⟨A2, c2, hsl, h2⟩ := tail_slice h hc
    have hrl : r.length ≤ 17592186044416 := by simp at hl; omega
    have hz : ((r.length : Int) + 1 == 0) = false := by simp; omega
    clear hcell hl h hc
    go_enter Try.func108, Try.ntmps108
    go_wp2_with fail
    go_region
    go_wp2_with fail
    go_loop [3, 4, 16] (fun s t i => ∃ k, k ≤ r.length ∧ i = .int .i64 (k : Nat) ∧ s = .int .i64 (lostFrom x (r.take k)).1 ∧ t = .int .i64 (lostFrom x (r.take k)).2) (fun _ _ i => r.length - (intOf i).toNat)
    case atStart => exact ⟨0, Nat.zero_le _, rfl, rfl, rfl⟩
    case round =>
      obtain ⟨k, hk, rfl, rfl, rfl⟩ := hrel
      by_cases hlt : k < r.length
      · obtain ⟨g2, o2, rfl, hg2, hc2⟩ := h2 (by simp; omega)
        have c1 : w.cell? ⟨g2, o2 + k, none⟩ = some (.int .i64 r[k]) := hc2 k _ (by rw [List.getElem?_map, List.getElem?_eq_getElem hlt]; rfl)
        have hsn : lostFrom x (r.take (k + 1)) = lostStep (lostFrom x (r.take k)) r[k] := by rw [List.take_succ_eq_append_getElem hlt, lostFrom_snoc]
        have hbd := lostFrom_bd x (r.take k)
        have hle : (r.take k).length ≤ k := by rw [List.length_take]; omega
        generalize lostFrom x (r.take k) = p at *
        obtain ⟨s, t⟩ := p
        generalize r[k] = y at *
        have hg := gap_bd t y
        have hL : (r.take k).length ≤ 17592186044416 := by omega
        generalize (r.take k).length = L at *
        simp only at hbd
        have K1 := newer_any t y w.drew
        have K2 := gap_any t y w.drew
        by_cases hpos : 0 < gapZ t y
        · rw [decide_eq_true hpos] at K1
          have hst : lostStep (s, t) y = (s + (gapZ t y - 1), y) := by unfold lostStep; rw [if_pos hpos]
          rw [hst] at hsn
          generalize gapZ t y = z at *
          have HS := Lib.hid hsn
          clear hc2 hsn hst
          go_wp2_with fail
          refine K1.mono ?_
          clear K1
          rintro e w1 ⟨rfl, rfl⟩
          go_wp2_with fail
          refine K2.mono ?_
          clear K2
          rintro e w1 ⟨rfl, rfl⟩
          go_wp2
          go_round
          case rel => exact ⟨k + 1, by omega, by go_num, by rw [HS.out], by rw [HS.out]⟩
          case measure => simp [intOf]; omega
        · rw [decide_eq_false hpos] at K1
          have hst : lostStep (s, t) y = (s, t) := by unfold lostStep; rw [if_neg hpos]
          rw [hst] at hsn
          generalize gapZ t y = z at *
          have HS := Lib.hid hsn
          clear hc2 hsn hst K2
          go_wp2_with fail
          refine K1.mono ?_
          clear K1
          rintro e w1 ⟨rfl, rfl⟩
          go_wp2
          go_round
          case rel => exact ⟨k + 1, by omega, by go_num, by rw [HS.out], by rw [HS.out]⟩
          case measure => simp [intOf]; omega
      · have hk' : k = r.length := by omega
        subst hk'
        rw [List.take_length]
        go_wp2
        go_ret
        exact ⟨rfl, 1, rfl⟩
end Go.Proofs.Ytfmhfngilimhjaa.Sq

namespace Go.Proofs.Ytfmhfngilimhjaa.Sq
open Go.RowKit

theorem gap_mod {a b : Int} : gapZ a b = gapZ (ofZ a) b := by unfold gapZ ofZ; omega
theorem gap_step (a g : Int) (h0 : 0 < g) (h1 : g < 32768) : gapZ a (ofZ (ofZ a + g)) = g := by unfold gapZ ofZ; omega
theorem of_of (a : Int) : ofZ (ofZ a) = ofZ a := by unfold ofZ; omega

theorem tmod_of (n : Int) : (if n.tmod 65536 < 0 then n.tmod 65536 + 65536 else n.tmod 65536) = ofZ n := by
  unfold ofZ
  have h := Int.tmod_def n 65536
  by_cases h0 : 0 ≤ n
  · rw [Int.tmod_eq_emod_of_nonneg h0, if_neg (by omega)]
  · have e : n.tmod 65536 = -((-n) % 65536) := by
      rw [← Int.tmod_eq_emod_of_nonneg (by omega : 0 ≤ -n), Int.neg_tmod, Int.neg_neg]
    rw [e]
    split <;> omega
theorem tmod_bd (n : Int) : -65536 < n.tmod 65536 ∧ n.tmod 65536 < 65536 := by
  by_cases h0 : 0 ≤ n
  · rw [Int.tmod_eq_emod_of_nonneg h0]; omega
  · have e : n.tmod 65536 = -((-n) % 65536) := by
      rw [← Int.tmod_eq_emod_of_nonneg (by omega : 0 ≤ -n), Int.neg_tmod, Int.neg_neg]
    rw [e]; omega

theorem rof_any (n : Int) (w : World) : Calls Try.prog 112 #[.int .i64 n] w fun e w' => e = .returned (.int .i64 (ofZ n)) ∧ w' = w := by
  have hb := tmod_bd n
  have he := tmod_of n
  go_enter Try.func112, Try.ntmps112
  go_wp2_with fail
  · rw [if_pos (by assumption)] at he
    go_ret
    exact ⟨congrArg (fun x => Ending.returned (.int .i64 x)) he, rfl⟩
  · rw [if_neg (by omega)] at he
    go_ret
    exact ⟨congrArg (fun x => Ending.returned (.int .i64 x)) he, rfl⟩
theorem gap_ref (a b : Int) : (if 32768 ≤ ofZ (ofZ b - ofZ a) then ofZ (ofZ b - ofZ a) - 65536 else ofZ (ofZ b - ofZ a)) = gapZ a b := by
  unfold gapZ ofZ
  split <;> omega
theorem rgap_any (a b : Int) (w : World) : Calls Try.prog 95 #[.int .i64 a, .int .i64 b] w fun e w' => e = .returned (.int .i64 (gapZ a b)) ∧ w' = w := by
  have K1 := rof_any a
  have K2 := rof_any b
  have K3 := rof_any (ofZ b - ofZ a)
  have he := gap_ref a b
  have h1 := of_bd a
  have h2 := of_bd b
  have h3 := of_bd (ofZ b - ofZ a)
  generalize ofZ (ofZ b - ofZ a) = d at *
  generalize ofZ a = x at *
  generalize ofZ b = y at *
  have HE := Lib.hid he
  clear he
  go_enter Try.func95, Try.ntmps95
  go_wp2_with fail
  refine (K2 _).mono ?_
  clear K2
  rintro e w1 ⟨rfl, rfl⟩
  go_wp2_with fail
  refine (K1 _).mono ?_
  clear K1
  rintro e w1 ⟨rfl, rfl⟩
  go_wp2_with fail
  refine (K3 _).mono ?_
  clear K3
  rintro e w1 ⟨rfl, rfl⟩
  have he := HE.out
  by_cases hd : 32768 ≤ d
  · rw [if_pos hd] at he
    clear HE
    go_wp2_with fail
    go_ret
    exact ⟨rfl, rfl⟩
  · rw [if_neg hd] at he
    clear HE
    go_wp2_with fail
    go_ret
    exact ⟨rfl, rfl⟩

/-- (lost so far, the last one taken), nought and nought at first -/
def pairL : List Int → Int × Int
  | [] => (0, 0)
  | x :: r => lostFrom x r
theorem pair_lost (l : List Int) : (pairL l).1 = lostL l := by cases l <;> rfl
theorem pair_snoc (x : Int) (r : List Int) (y : Int) : pairL (x :: r ++ [y]) = lostStep (pairL (x :: r)) y := lostFrom_snoc x r y
theorem pair_bd (l : List Int) : 0 ≤ (pairL l).1 ∧ (pairL l).1 ≤ (l.length : Int) * 32767 := by
  cases l with
  | nil => simp [pairL]
  | cons x r =>
    have := lostFrom_bd x r
    rw [List.length_cons]
    show 0 ≤ (lostFrom x r).1 ∧ (lostFrom x r).1 ≤ _
    omega

set_option maxHeartbeats 800000 in
theorem rlost_any {A : Option Addr} {c : Nat} {l : List Int} {w : World} (h : Rd w A (l.map (Value.int .i64))) (hl : l.length ≤ 17592186044416) :
    Calls Try.prog 76 #[.slice A l.length c] w fun e w' => e = .returned (.int .i64 (lostL l)) ∧ w' = w := by
  go_enter Try.func76, Try.ntmps76
  go_wp2_with fail
  go_loop [3, 4, 10] (fun s t i => ∃ k, k ≤ l.length ∧ i = .int .i64 (k : Nat) ∧ s = .int .i64 (pairL (l.take k)).1 ∧ t = .int .i64 (pairL (l.take k)).2) (fun _ _ i => l.length - (intOf i).toNat)
  case atStart => exact ⟨0, Nat.zero_le _, rfl, rfl, rfl⟩
  case round =>
    obtain ⟨k, hk, rfl, rfl, rfl⟩ := hrel
    by_cases hlt : k < l.length
    · obtain ⟨g, o, rfl, hg, hc⟩ := h (by simp; omega)
      have c1 : w.cell? ⟨g, o + k, none⟩ = some (.int .i64 l[k]) := hc k _ (by rw [List.getElem?_map, List.getElem?_eq_getElem hlt]; rfl)
      have ht : l.take (k + 1) = l.take k ++ [l[k]] := List.take_succ_eq_append_getElem hlt
      by_cases h0 : k = 0
      · subst h0
        have hsn : pairL (l.take (0 + 1)) = ((0 : Int), l[0]) := by rw [ht]; rfl
        have c2 : w.cell? ⟨g, o, none⟩ = some (.int .i64 l[0]) := c1
        generalize l[0] = y at *
        have HS := Lib.hid hsn
        clear hc ht hsn h c1
        rw [show pairL (l.take 0) = ((0 : Int), (0 : Int)) from rfl]
        go_wp2
        go_round
        case rel => exact ⟨0 + 1, by omega, by go_num, by rw [HS.out], by rw [HS.out]⟩
        case measure => simp [intOf]; omega
      · obtain ⟨x, r, hxr⟩ : ∃ x r, l.take k = x :: r := by
          rcases hq : l.take k with _ | ⟨x, r⟩
          · have := congrArg List.length hq
            rw [List.length_take, List.length_nil] at this
            omega
          · exact ⟨x, r, rfl⟩
        have hsn : pairL (l.take (k + 1)) = lostStep (pairL (l.take k)) l[k] := by rw [ht, hxr, pair_snoc]
        have hbd := pair_bd (l.take k)
        have hL : (l.take k).length ≤ 17592186044416 := by rw [List.length_take]; omega
        generalize pairL (l.take k) = p at *
        obtain ⟨s, t⟩ := p
        generalize l[k] = y at *
        generalize (l.take k).length = L at *
        simp only at hbd
        have hg := gap_bd t y
        have K2 := rgap_any t y w
        have hk0 : ((k : Int) == 0) = false := by simp; omega
        by_cases hpos : 0 < gapZ t y
        · have hst : lostStep (s, t) y = (s + (gapZ t y - 1), y) := by unfold lostStep; rw [if_pos hpos]
          rw [hst] at hsn
          generalize gapZ t y = z at *
          have HS := Lib.hid hsn
          clear hc hsn hst ht h hxr
          go_wp2_with fail
          refine K2.mono ?_
          clear K2
          rintro e w1 ⟨rfl, rfl⟩
          go_wp2
          go_round
          case rel => exact ⟨k + 1, by omega, by go_num, by rw [HS.out], by rw [HS.out]⟩
          case measure => simp [intOf]; omega
        · have hst : lostStep (s, t) y = (s, t) := by unfold lostStep; rw [if_neg hpos]
          rw [hst] at hsn
          generalize gapZ t y = z at *
          have HS := Lib.hid hsn
          clear hc hsn hst ht h hxr
          go_wp2_with fail
          refine K2.mono ?_
          clear K2
          rintro e w1 ⟨rfl, rfl⟩
          go_wp2
          go_round
          case rel => exact ⟨k + 1, by omega, by go_num, by rw [HS.out], by rw [HS.out]⟩
          case measure => simp [intOf]; omega
    · have hk' : k = l.length := by omega
      subst hk'
      rw [List.take_length]
      go_wp2
      go_ret
      exact ⟨congrArg (fun x => Ending.returned (.int .i64 x)) (pair_lost l), rfl⟩
end Go.Proofs.Ytfmhfngilimhjaa.Sq


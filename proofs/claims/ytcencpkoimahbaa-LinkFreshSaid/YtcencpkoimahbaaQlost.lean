/- The contract of Lost: what is lost in a row of numbers. -/
import Derived.Test.YtcencpkoimahbaaQnum
namespace Go.Proofs.Ytcencpkoimahbaa.Sq
open Go.RowKit

/-- one number more: (lost so far, the last one taken) -/
def lostStep (p : Int × Int) (x : Int) : Int × Int := if 0 < gapZ p.2 x then (p.1 + (gapZ p.2 x - 1), x) else p
/-- how many are lost behind x -/
def lostFrom (x : Int) (l : List Int) : Int × Int := l.foldl lostStep (0, x)
def lostL : List Int → Int
  | [] => 0
  | x :: r => (lostFrom x r).1
theorem lostFrom_snoc (x : Int) (l : List Int) (y : Int) : lostFrom x (l ++ [y]) = lostStep (lostFrom x l) y := by unfold lostFrom; rw [List.foldl_append]; rfl
theorem lost_go (l : List Int) : ∀ p : Int × Int, p.1 ≤ (l.foldl lostStep p).1 ∧ (l.foldl lostStep p).1 ≤ p.1 + (l.length : Int) * 32767 := by
  induction l with
  | nil => intro p; simp
  | cons y l ih =>
    intro p
    have k := ih (lostStep p y)
    rw [List.foldl_cons, List.length_cons]
    generalize List.foldl lostStep (lostStep p y) l = q at *
    have h := gap_bd p.2 y
    unfold lostStep at k
    split at k <;> omega
theorem lostFrom_bd (x : Int) (l : List Int) : 0 ≤ (lostFrom x l).1 ∧ (lostFrom x l).1 ≤ (l.length : Int) * 32767 := by
  have := lost_go l (0, x)
  unfold lostFrom
  simp only at this
  omega

theorem tail_slice {w : World} {g o c : Nat} {x : Int} {r : List Int} (h : Rd w (some ⟨g, o, none⟩) ((x :: r).map (Value.int .i64))) (hc : r.length + 1 ≤ c) :
    ∃ A2 c2, (∀ W, (Instr.slice 42 (.slice (some ⟨g, o, none⟩) (r.length + 1) c) (some (.int .i64 1)) none none).run Try.prog W = .ok (.slice A2 r.length c2) W) ∧ Rd w A2 (r.map (Value.int .i64)) := by
  obtain ⟨g', o', hA, hg, hcell⟩ := h (by simp)
  injection hA with hA
  injection hA with e1 e2
  subst e1 e2
  by_cases hc1 : c = 1
  · subst hc1
    have hr : r = [] := List.eq_nil_of_length_eq_zero (by omega)
    subst hr
    refine ⟨some ⟨g, o, none⟩, 0, fun W => ?_, fun h0 => by simp at h0⟩
    go_simp
  · refine ⟨some ⟨g, o + 1, none⟩, c - 1, fun W => ?_, fun h0 => ⟨g, o + 1, rfl, hg, fun j u hu => ?_⟩⟩
    · have h1 : (r.length : Int) + 1 ≤ (c : Int) := by omega
      have h2 : ¬ (r.length : Int) + 1 < 1 := by omega
      go_simp
    · have := hcell (j + 1) u (by rw [List.map_cons, List.getElem?_cons_succ]; exact hu)
      rw [show o + 1 + j = o + (j + 1) by omega]
      exact this

set_option maxHeartbeats 800000 in
theorem lost_any {A : Option Addr} {c : Nat} {l : List Int} {w : World} (h : Rd w A (l.map (Value.int .i64))) (hc : l.length ≤ c) (hl : l.length ≤ 17592186044416) :
    Calls Try.prog 60 #[.slice A l.length c] w fun e w' => e = .returned (.int .i64 (lostL l)) ∧ ∃ n, w' = w.drewN n := by
  rcases l with _ | ⟨x, r⟩
  · go_enter Try.func60, Try.ntmps60
    go_wp2_with fail
    go_ret
    exact ⟨rfl, 0, rfl⟩
  · obtain ⟨g, o, rfl, hg, hcell⟩ := h (by simp)
    have c0 : w.cell? ⟨g, o, none⟩ = some (.int .i64 x) := hcell 0 _ rfl
    obtain ⟨A2, c2, hsl, h2⟩ := tail_slice h hc
    have hrl : r.length ≤ 17592186044416 := by simp at hl; omega
    have hz : ((r.length : Int) + 1 == 0) = false := by simp; omega
    clear hcell hl h hc
    go_enter Try.func60, Try.ntmps60
    go_wp2_with fail
    go_region
    go_wp2_with fail
    go_loop [3, 4, 16] (fun s t i => ∃ k, k ≤ r.length ∧ i = .int .i64 (k : Nat) ∧ s = .int .i64 (lostFrom x (r.take k)).1 ∧ t = .int .i64 (lostFrom x (r.take k)).2) (fun _ _ i => r.length - (intOf i).toNat)
    case atStart => exact ⟨0, Nat.zero_le _, rfl, rfl, rfl⟩
    case round =>
      obtain ⟨k, hk, rfl, rfl, rfl⟩ := hrel
      by_cases hlt : k < r.length
      · obtain ⟨g2, o2, rfl, hg2, hc2⟩ := h2 (by simp; omega)
        have c1 : w.cell? ⟨g2, o2 + k, none⟩ = some (.int .i64 r[k]) := hc2 k _ (by rw [List.getElem?_map, List.getElem?_eq_getElem hlt]; rfl)
        have hsn : lostFrom x (r.take (k + 1)) = lostStep (lostFrom x (r.take k)) r[k] := by rw [List.take_succ_eq_append_getElem hlt, lostFrom_snoc]
        have hbd := lostFrom_bd x (r.take k)
        have hle : (r.take k).length ≤ k := by rw [List.length_take]; omega
        generalize lostFrom x (r.take k) = p at *
        obtain ⟨s, t⟩ := p
        generalize r[k] = y at *
        have hg := gap_bd t y
        have hL : (r.take k).length ≤ 17592186044416 := by omega
        generalize (r.take k).length = L at *
        simp only at hbd
        have K1 := newer_any t y w.drew
        have K2 := gap_any t y w.drew
        by_cases hpos : 0 < gapZ t y
        · rw [decide_eq_true hpos] at K1
          have hst : lostStep (s, t) y = (s + (gapZ t y - 1), y) := by unfold lostStep; rw [if_pos hpos]
          rw [hst] at hsn
          generalize gapZ t y = z at *
          have HS := Lib.hid hsn
          clear hc2 hsn hst
          go_wp2_with fail
          refine K1.mono ?_
          clear K1
          rintro e w1 ⟨rfl, rfl⟩
          go_wp2_with fail
          refine K2.mono ?_
          clear K2
          rintro e w1 ⟨rfl, rfl⟩
          go_wp2
          go_round
          case rel => exact ⟨k + 1, by omega, by go_num, by rw [HS.out], by rw [HS.out]⟩
          case measure => simp [intOf]; omega
        · rw [decide_eq_false hpos] at K1
          have hst : lostStep (s, t) y = (s, t) := by unfold lostStep; rw [if_neg hpos]
          rw [hst] at hsn
          generalize gapZ t y = z at *
          have HS := Lib.hid hsn
          clear hc2 hsn hst K2
          go_wp2_with fail
          refine K1.mono ?_
          clear K1
          rintro e w1 ⟨rfl, rfl⟩
          go_wp2
          go_round
          case rel => exact ⟨k + 1, by omega, by go_num, by rw [HS.out], by rw [HS.out]⟩
          case measure => simp [intOf]; omega
      · have hk' : k = r.length := by omega
        subst hk'
        rw [List.take_length]
        go_wp2
        go_ret
        exact ⟨rfl, 1, rfl⟩
end Go.Proofs.Ytcencpkoimahbaa.Sq

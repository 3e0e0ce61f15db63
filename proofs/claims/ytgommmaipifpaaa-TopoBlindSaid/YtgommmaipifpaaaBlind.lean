/- The walk of TopoBlind: the way of a train hangs on the positions of the points in it alone. -/
import Derived.Test.YtgommmaipifpaaaMeets
import Derived.Test.YtgommmaipifpaaaTrip
namespace Go.Proofs.Ytgommmaipifpaaa
open Go.RowKit

def cellsN (l : List Int) : Array Value := (l.map (Value.int .i64)).toArray
theorem Try.infoInt : (Try.prog.info? 3).map (fun i => (i.zero, i.size, i.bytes)) = some (some (.int .i64 0), 1, 8) := by kernel_rfl
theorem make_ints (n : Nat) (hn : n * 8 ≤ 140737488355328) (W : World) : (Instr.makeSlice 42 (.int .i64 (n : Int)) (.int .i64 (n : Int))).run Try.prog W = .ok (.slice (some ⟨W.heap.size, 0, none⟩) n n) (W.alloc (.cells (cellsN (List.replicate n 0)) 3)) := by
  obtain ⟨i0, hi0, hz0, hz1, hz2⟩ := info_parts Try.infoInt
  have h := run_make (P := Try.prog) W 42 3 i0 _ Try.underlying42 hi0 hz0 .i64 .i64 (n : Int) (n : Int) (by omega) (by omega) (by rw [hz2]; omega) (by omega)
  rw [h, hz1, Int.toNat_natCast]
  have e : madeCells (Value.int .i64 0).cells (n * 1) = cellsN (List.replicate n 0) := by
    apply Array.ext_getElem?
    intro i
    unfold madeCells cellsN
    by_cases hi : i < n
    · have e2 : i % 1 = 0 := Nat.mod_one i
      simp [Value.cells, hi, e2]
    · simp [hi]
  rw [e]
theorem cellsN_at {l : List Int} {k : Nat} (h : k < l.length) : (cellsN l)[k]? = some (.int .i64 (posAt l k)) := by
  unfold cellsN posAt
  rw [List.getElem?_toArray, List.getElem?_map, List.getD_eq_getElem?_getD, List.getElem?_eq_getElem h]
  rfl
theorem cellsN_set (l : List Int) (k : Nat) (b : Int) : (cellsN l).setIfInBounds k (.int .i64 b) = cellsN (l.set k b) := by
  unfold cellsN
  rw [List.setIfInBounds_toArray, List.map_set]
theorem posAt_set (l : List Int) (k j : Nat) (v : Int) (h : k < l.length) : posAt (l.set k v) j = if k = j then v else posAt l j := by
  unfold posAt
  rw [List.getD_eq_getElem?_getD, List.getD_eq_getElem?_getD, List.getElem?_set]
  by_cases e : k = j
  · subst e; simp [h]
  · simp [e]
theorem rd_ints {w : World} {b : Nat} {t : TypeId} {o : List Int} (h : Is w b t (cellsN o)) : Rd w (some ⟨b, 0, none⟩) (o.map (Value.int .i64)) := fun _ =>
  ⟨b, 0, rfl, h.lt, fun j u hu => by
    rw [Nat.zero_add, h.cell j]
    unfold cellsN
    rw [List.getElem?_toArray]
    exact hu⟩
theorem rd_pos {w : World} {A : Option Addr} {p : List Int} (h : Rd w A (p.map (Value.int .i64))) {k : Nat} (hk : k < p.length) : ∃ g o, A = some ⟨g, o, none⟩ ∧ w.cell? ⟨g, o + k, none⟩ = some (.int .i64 (posAt p k)) := by
  obtain ⟨g, o, rfl, _, hc⟩ := h (by rw [List.length_map]; omega)
  refine ⟨g, o, rfl, hc k _ ?_⟩
  unfold posAt
  rw [List.getElem?_map, List.getD_eq_getElem?_getD, List.getElem?_eq_getElem hk]
  rfl

set_option maxRecDepth 100000 in
set_option maxHeartbeats 16000000 in
theorem blind_walk {A1 A2 A3 : Option Addr} {c1 c2 c3 : Nat} {l : List Sec} {js : List Jo} {p : List Int} (a b : Int) (w : World) (h1 : Rd w A1 (cellsS l)) (h2 : Rd w A2 (cellsJ js)) (h3 : Rd w A3 (p.map (Value.int .i64)))
    (hl : l.length * 24 ≤ 140737488351232) (hj : js.length ≤ c2) (hc2 : c2 ≤ 9223372036854775807) (hp : p.length * 8 ≤ 140737488351232) :
    Calls Try.prog 9 #[.agg #[.slice A1 l.length c1, .slice A2 js.length c2], .agg #[.int .i64 a, .int .i64 b], .slice A3 p.length c3] w fun x w' => x = .returned (.bool true) ∧ Below w.heap.size w w' := by
  have KL := fun w => lives_any w
  have KC := fun w h h' => check_any (A1 := A1) (A2 := A2) (c1 := c1) (c2 := c2) (l := l) (js := js) w h h' (by omega) hj hc2
  have KF := fun w h h' h'' => follow_any (A1 := A1) (A2 := A2) (A3 := A3) (c1 := c1) (c2 := c2) (c3 := c3) (l := l) (js := js) (p := p) a b w h h' h'' hl (by omega) (by omega)
  have is0 := (Is.new w 25 #[.slice A1 l.length c1, .slice A2 js.length c2]).alloc (.cells #[.int .i64 a, .int .i64 b] 51)
  have f0 := ((Fr.refl (fun _ => False) w).alloc (.cells #[.slice A1 l.length c1, .slice A2 js.length c2] 25)).alloc (.cells #[.int .i64 a, .int .i64 b] 51)
  have iq0 : Is _ (w.heap.size + 1) _ _ := is_new_at (w := w.alloc (.cells #[.slice A1 l.length c1, .slice A2 js.length c2] 25)) (n := w.heap.size + 1) (by simp) 51 #[.int .i64 a, .int .i64 b]
  have hmk := make_ints p.length (by omega)
  have hin := fun x h => follow_in (l := l) (js := js) (p := p) a b x h
  have hsh := follow_short (l := l) (js := js) (p := p) a b
  have hbl := fun q h => follow_blind (l := l) (js := js) (p := p) (q := q) a b h
  generalize hT : followM l js a b p = T at *
  have HT := Lib.hid hT
  have HIN := Lib.hid hin
  have HBL := Lib.hid hbl
  have HMK := Lib.hid hmk
  clear hT hin hbl hmk
  go_enter Try.func9, Try.ntmps9
  go_wp2_with fail
  refine (KL _).mono ?_
  clear KL
  rintro x w1 ⟨rfl, f1⟩
  have is1 := is0.fr f1 id
  have iq1 := iq0.fr f1 id
  have g1 := fr_nil f0 f1
  clear is0 iq0 f0 f1
  have k0 := is1.cell 0
  have k1 := is1.cell 1
  go_wp2_with fail
  refine (KC _ (h1.fr g1 fun _ _ => id) (h2.fr g1 fun _ _ => id)).mono ?_
  clear KC
  rintro x w2 ⟨rfl, f2⟩
  have is2 := is1.fr f2 id
  have iq2 := iq1.fr f2 id
  have g2 := fr_nil g1 f2
  clear is1 iq1 g1 k0 k1 f2
  have k0 := is2.cell 0
  have k1 := is2.cell 1
  have q0 := iq2.cell 0
  have q1 := iq2.cell 1
  cases hc : checkB l js
  · rw [show errOf false = 6 from rfl]
    go_wp2_with fail
    go_ret
    exact ⟨rfl, g2.toBelow0⟩
  · rw [show errOf true = 0 from rfl]
    clear hc
    by_cases hlp : p.length < l.length
    · have e1 : decide (p.length < l.length) = true := by simp [hlp]
      go_wp2_with fail
      go_ret
      exact ⟨rfl, g2.toBelow0⟩
    · have e1 : decide (p.length < l.length) = false := by simp; omega
      have hlp' : l.length ≤ p.length := by omega
      clear hlp
      go_wp2_with fail
      refine (KF _ (h1.fr g2 fun _ _ => id) (h2.fr g2 fun _ _ => id) (h3.fr g2 fun _ _ => id)).mono ?_
      clear KF
      rintro x w3 ⟨A4, c4, rfl, hown, f3⟩
      have is3 := is2.fr f3 id
      have iq3 := iq2.fr f3 id
      have g3 := fr_nil g2 f3
      have rt := wide_rd hown
      clear is2 iq2 g2 k0 k1 q0 q1 f3 hown
      have hmk := HMK.out
      generalize hcs : cellsN (List.replicate p.length 0) = cs at hmk
      have HC := Lib.hid hcs
      clear hcs
      go_wp2_with fail
      clear hmk
      go_loopw [45] (fun t wr => ∃ (j : Nat) (o : List Int), j ≤ p.length ∧ t = .int .i64 (j : Nat) ∧ o.length = p.length ∧ Is wr w3.heap.size 3 (cellsN o) ∧ Fr (fun _ => False) w3 wr) (fun t _ => p.length - (intOf t).toNat)
      case atStart => exact ⟨0, List.replicate p.length 0, Nat.zero_le _, rfl, List.length_replicate, by rw [HC.out]; exact Is.new _ _ _, (Fr.refl _ _).alloc _⟩
      case round =>
        obtain ⟨j, o, hjl, rfl, ho, iso, fr⟩ := hrel
        by_cases hlt : j < p.length
        · have HO := Lib.hid ho
          have hb := iso.lt
          have kf := iso.frozen j
          have kc := (iso.cell j).trans (cellsN_at (by omega))
          clear ho
          go_wp2_with fail
          go_roundw
          case rel =>
            refine ⟨j + 1, o.set j (-7), by omega, by go_num, by rw [List.length_set]; exact HO.out, ?_, fr.setCell (p := ⟨w3.heap.size, j, none⟩) (.inr (Nat.le_refl _)) _⟩
            have := iso.set j (.int .i64 (-7))
            rw [cellsN_set] at this
            exact this
          case measure => simp [intOf]; omega
        · go_wp2_with fail
          clear HC hlt hjl
          go_loopw [54] (fun t wi => ∃ (i : Nat) (o : List Int), i ≤ T.length ∧ t = .int .i64 (i : Nat) ∧ o.length = p.length ∧ Is wi w3.heap.size 3 (cellsN o) ∧ Fr (fun _ => False) w3 wi ∧
            ∀ (m : Nat) (hm : m < T.length), m < i → kindOf l T[m].sec.toNat = 1 → posAt o T[m].sec.toNat = posAt p T[m].sec.toNat) (fun t _ => T.length - (intOf t).toNat)
          case atStart => exact ⟨0, o, Nat.zero_le _, rfl, ho, iso, fr, fun m hm h0 => absurd h0 (by omega)⟩
          case round =>
            clear ho iso fr
            obtain ⟨i, o, hi, rfl, ho, iso, fr, hpr⟩ := hrel
            have HPR := Lib.hid hpr
            clear hpr
            by_cases hlt : i < T.length
            · obtain ⟨s, hs, hsl⟩ := HIN.out T[i] (List.getElem_mem hlt)
              obtain ⟨gt, ot, rfl, t0, t1, t2⟩ := rd_st (rt.fr fr fun _ _ => id) hlt
              rw [hs] at t0
              have HS := Lib.hid hs
              generalize hti : T[i].inn = ti at *
              generalize hto : T[i].out = to at *
              have fa := fr.alloc (.cells #[.int .i64 (s : Nat), .int .i64 ti, .int .i64 to] 37)
              have gr := fr_nil g3 fa
              obtain ⟨gs, os, rfl, s0, _, _⟩ := rd_sec (h1.fr gr fun _ _ => id) hsl
              obtain ⟨gp, op, rfl, p00⟩ := rd_pos (h3.fr g3 fun _ _ => id) (show s < p.length by omega)
              have hgp : gp < w3.heap.size := World.block_lt_of_cell? _ ⟨gp, op + s, none⟩ p00
              have p0 := (fa.cell (p := ⟨gp, op + s, none⟩) hgp id).trans p00
              clear p00
              rw [← kindOf_at hsl] at s0
              have isp := is3.fr fa id
              have isa := iso.alloc (.cells #[.int .i64 (s : Nat), .int .i64 ti, .int .i64 to] 37)
              have k0 := isp.cell 0
              have HTI := Lib.hid hti
              have HTO := Lib.hid hto
              clear hti hto hs
              by_cases hk1 : kindOf l s = 1
              · rw [hk1] at s0
                have HO := Lib.hid ho
                have i1 : (0 : Int) ≤ (s : Int) := by omega
                have i2 : (s : Int) < (p.length : Int) := by omega
                clear ho hk1
                go_wp2_with fail
                have x0 := (Is.new wr 37 #[.int .i64 (s : Nat), .int .i64 ti, .int .i64 to]).cell 0
                have kc := (isa.cell s).trans (cellsN_at (show s < o.length by rw [HO.out]; omega))
                have kf := isa.frozen s
                generalize hpv : posAt p s = pv at *
                have HPV := Lib.hid hpv
                clear hpv
                have hiso := iso.lt
                have n1 : wr.heap.size ≠ w3.heap.size := by omega
                have n2 : gp ≠ w3.heap.size := by omega
                clear hiso
                go_region_held3 (fun Wx => Wx.cell? ⟨wr.heap.size, 0, none⟩ = some (.int .i64 (s : Nat)) ∧ Wx.cell? ⟨gp, op + s, none⟩ = some (.int .i64 pv)) (first | exact ⟨x0, p0⟩ | exact ⟨(World.cell?_setCell_other _ _ _ _ (by intro e; injection e with e _ _; first | exact n1 e | exact n1 e.symm)).trans x0, (World.cell?_setCell_other _ _ _ _ (by intro e; injection e with e _ _; first | exact n2 e | exact n2 e.symm)).trans p0⟩) (fail)
                go_wp2_with fail
                go_roundw
                case rel =>
                  refine ⟨i + 1, o.set s pv, by omega, by go_num, by rw [List.length_set]; exact HO.out, ?_, (fa.drew).setCell (p := ⟨w3.heap.size, s, none⟩) (.inr (Nat.le_refl _)) _, fun m hm h0 hk => ?_⟩
                  · have := isa.drew.set s (.int .i64 pv)
                    rw [cellsN_set] at this
                    exact this
                  · rw [posAt_set _ _ _ _ (by rw [HO.out]; omega)]
                    split
                    · rename_i e
                      rw [← e]
                      exact HPV.out.symm
                    · rename_i e
                      refine HPR.out m hm ?_ hk
                      have : m ≠ i := fun e2 => by
                        subst e2
                        apply e
                        rw [HS.out, Int.toNat_natCast]
                      omega
                case measure => simp [intOf]; omega
              · have e2 : (kindOf l s == 1) = false := by simp [hk1]
                have HK1 := Lib.hid hk1
                clear hk1
                go_wp2_with fail
                go_roundw
                case rel =>
                  refine ⟨i + 1, o, by omega, by go_num, ho, isa, fa, fun m hm h0 hk => HPR.out m hm ?_ hk⟩
                  have : m ≠ i := fun e => by
                    subst e
                    rw [HS.out, Int.toNat_natCast] at hk
                    exact HK1.out hk
                  omega
                case measure => simp [intOf]; omega
            · have hit : i = T.length := by omega
              have hall : ∀ x ∈ T, kindOf l x.sec.toNat = 1 → posAt o x.sec.toNat = posAt p x.sec.toNat := by
                intro x hx hk
                obtain ⟨m, hm, rfl⟩ := List.mem_iff_getElem.1 hx
                exact HPR.out m hm (by omega) hk
              have hq := HBL.out o hall
              have gr := fr_nil g3 fr
              have KF := fun w h h' h'' => follow_any (A1 := A1) (A2 := A2) (A3 := some ⟨w3.heap.size, 0, none⟩) (c1 := c1) (c2 := c2) (c3 := p.length) (l := l) (js := js) (p := o) a b w h h' h'' hl (by omega) (by omega)
              rw [hq, ho] at KF
              have isp := is3.fr fr id
              have isq := iq3.fr fr id
              have k0 := isp.cell 0
              have k1 := isp.cell 1
              have q0 := isq.cell 0
              have q1 := isq.cell 1
              have rto := rd_ints iso
              have rt2 := rt.fr fr fun _ _ => id
              clear HPR hall hq ho HBL HMK HIN HT iso
              go_wp2_with fail
              refine (KF _ (h1.fr gr fun _ _ => id) (h2.fr gr fun _ _ => id) rto).mono ?_
              clear KF
              rintro x w5 ⟨A5, c5, rfl, hown5, f5⟩
              have rt5 := wide_rd hown5
              have rt3 := rt2.fr f5 fun _ _ => id
              have g5 := fr_nil gr f5
              clear hown5 k0 k1 q0 q1 rto rt2 rt fr gr f5
              go_wp2_with fail
              go_loopw [93] (fun t wi => ∃ i : Nat, i ≤ T.length ∧ t = .int .i64 (i : Nat) ∧ Fr (fun _ => False) w5 wi) (fun t _ => T.length - (intOf t).toNat)
              case atStart => exact ⟨0, Nat.zero_le _, rfl, Fr.refl _ _⟩
              case round =>
                obtain ⟨i, hi, rfl, fi⟩ := hrel
                by_cases hlt2 : i < T.length
                · obtain ⟨ga, oa, rfl, x0, x1, x2⟩ := rd_st (rt3.fr fi fun _ _ => id) hlt2
                  obtain ⟨gb, ob, rfl, y0, y1, y2⟩ := rd_st (rt5.fr fi fun _ _ => id) hlt2
                  generalize T[i] = v at *
                  obtain ⟨va, vb, vc⟩ := v
                  simp only at *
                  have i1 : (0 : Int) ≤ (i : Int) := by omega
                  have i2 : (i : Int) < (T.length : Int) := by omega
                  go_wp2_with fail
                  go_quiet (fail)
                  go_wp2_with fail
                  go_roundw
                  case rel => exact ⟨i + 1, by omega, by go_num, fi.drewN nq⟩
                  case measure => simp [intOf]; omega
                · go_wp2_with fail
                  go_ret
                  exact ⟨rfl, (fr_nil g5 fi).toBelow0⟩
end Go.Proofs.Ytgommmaipifpaaa

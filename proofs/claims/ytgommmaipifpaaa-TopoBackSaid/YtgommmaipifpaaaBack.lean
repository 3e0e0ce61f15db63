/- The walk of TopoBack: on a right plan a train that turns about at the end of its way goes back through the same sections, each the other way round. -/
import Derived.Test.YtgommmaipifpaaaMeets
import Derived.Test.YtgommmaipifpaaaTrip
namespace Go.Proofs.Ytgommmaipifpaaa
open Go.RowKit

theorem back_at {T rest : List St} {i : Nat} (h : i < T.length) : ∃ hi : i < (T.reverse.map turn ++ rest).length, (T.reverse.map turn ++ rest)[i] = turn (T[T.length - 1 - i]'(by omega)) := by
  refine ⟨by simp; omega, ?_⟩
  rw [List.getElem_append_left (by simp; omega), List.getElem_map, List.getElem_reverse]

theorem rd_st_at {w : World} {g o : Nat} {l : List St} (h : Rd w (some ⟨g, o, none⟩) (cellsT l)) {j : Nat} (hj : j < l.length) : w.cell? ⟨g, o + j * 3, none⟩ = some (.int .i64 l[j].sec) ∧ w.cell? ⟨g, o + j * 3 + 1, none⟩ = some (.int .i64 l[j].inn) ∧ w.cell? ⟨g, o + j * 3 + 2, none⟩ = some (.int .i64 l[j].out) := by
  obtain ⟨g', o', e, h0, h1, h2⟩ := rd_st h hj
  injection e with e
  injection e with e1 e2
  subst e1 e2
  exact ⟨h0, h1, h2⟩

set_option maxRecDepth 100000 in
set_option maxHeartbeats 16000000 in
theorem back_walk {A1 A2 A3 : Option Addr} {c1 c2 c3 : Nat} {l : List Sec} {js : List Jo} {p : List Int} (a b : Int) (w : World) (h1 : Rd w A1 (cellsS l)) (h2 : Rd w A2 (cellsJ js)) (h3 : Rd w A3 (p.map (Value.int .i64)))
    (hl : l.length * 24 ≤ 140737488351232) (hj : js.length ≤ c2) (hc2 : c2 ≤ 9223372036854775807) (hp : p.length * 8 ≤ 140737488351232) :
    Calls Try.prog 7 #[.agg #[.slice A1 l.length c1, .slice A2 js.length c2], .agg #[.int .i64 a, .int .i64 b], .slice A3 p.length c3] w fun x w' => x = .returned (.bool true) ∧ Below w.heap.size w w' := by
  have KL := fun w => lives_any w
  have KC := fun w h h' => check_any (A1 := A1) (A2 := A2) (c1 := c1) (c2 := c2) (l := l) (js := js) w h h' (by omega) hj hc2
  have KF := fun s i w h h' h'' => follow_any (A1 := A1) (A2 := A2) (A3 := A3) (c1 := c1) (c2 := c2) (c3 := c3) (l := l) (js := js) (p := p) s i w h h' h'' hl (by omega) (by omega)
  have is0 := (Is.new w 25 #[.slice A1 l.length c1, .slice A2 js.length c2]).alloc (.cells #[.int .i64 a, .int .i64 b] 51)
  have f0 := ((Fr.refl (fun _ => False) w).alloc (.cells #[.slice A1 l.length c1, .slice A2 js.length c2] 25)).alloc (.cells #[.int .i64 a, .int .i64 b] 51)
  have iq0 : Is _ (w.heap.size + 1) _ _ := is_new_at (w := w.alloc (.cells #[.slice A1 l.length c1, .slice A2 js.length c2] 25)) (n := w.heap.size + 1) (by simp) 51 #[.int .i64 a, .int .i64 b]
  have KF1 := KF a b
  have hsh := follow_short (l := l) (js := js) (p := p) a b
  have hbk := fun hj x hx h0 => follow_back (l := l) (js := js) (p := p) hj a b x hx h0
  generalize hT : followM l js a b p = T at *
  have HT := Lib.hid hT
  have HBK := Lib.hid hbk
  clear hT hbk
  go_enter Try.func7, Try.ntmps7
  go_wp2_with fail
  refine (KL _).mono ?_
  clear KL
  rintro x w1 ⟨rfl, f1⟩
  have is1 := is0.fr f1 id
  have iq1 := iq0.fr f1 id
  have g1 := fr_nil f0 f1
  clear is0 iq0 f0 f1
  have k0 := is1.cell 0
  have k1 := is1.cell 1
  go_wp2_with fail
  refine (KC _ (h1.fr g1 fun _ _ => id) (h2.fr g1 fun _ _ => id)).mono ?_
  clear KC
  rintro x w2 ⟨rfl, f2⟩
  have is2 := is1.fr f2 id
  have iq2 := iq1.fr f2 id
  have g2 := fr_nil g1 f2
  clear is1 iq1 g1 k0 k1 f2
  have k0 := is2.cell 0
  have k1 := is2.cell 1
  have q0 := iq2.cell 0
  have q1 := iq2.cell 1
  cases hc : checkB l js
  · rw [show errOf false = 6 from rfl]
    go_wp2_with fail
    go_ret
    exact ⟨rfl, g2.toBelow0⟩
  · rw [show errOf true = 0 from rfl]
    obtain ⟨hn, _, hjo⟩ := check_parts hc
    have HJ := Lib.hid hjo
    obtain ⟨hn1, hn2, hn3⟩ := hn
    clear hc hjo
    go_wp2_with fail
    refine (KF1 _ (h1.fr g2 fun _ _ => id) (h2.fr g2 fun _ _ => id) (h3.fr g2 fun _ _ => id)).mono ?_
    clear KF1
    rintro x w3 ⟨A4, c4, rfl, hown, f3⟩
    have is3 := is2.fr f3 id
    have g3 := fr_nil g2 f3
    have rt := wide_rd hown
    clear is2 iq2 g2 k0 k1 q0 q1 f3 hown
    by_cases ht : T.length = 0
    · rw [ht]
      go_wp2_with fail
      go_ret
      exact ⟨rfl, g3.toBelow0⟩
    · obtain ⟨m, hm⟩ : ∃ m, T.length = m + 1 := ⟨T.length - 1, by omega⟩
      have hml : m < T.length := by omega
      obtain ⟨gt, ot, rfl, t0, t1, t2⟩ := rd_st rt hml
      have hlast : T.getLast? = some T[m] := by
        rw [List.getLast?_eq_getElem?, hm, Nat.add_sub_cancel, List.getElem?_eq_getElem hml]
      rw [hm]
      have HM := Lib.hid hm
      have HLA := Lib.hid hlast
      have k0 := is3.cell 0
      have k1 := is3.cell 1
      generalize hx : T[m] = z at *
      have HX := Lib.hid hx
      clear hx hlast ht hm
      by_cases hneg : z.out < 0
      · obtain ⟨zs, zi, zo⟩ := z
        simp only at *
        go_wp2_with fail
        go_ret
        exact ⟨rfl, g3.toBelow0⟩
      · obtain ⟨rest, hb⟩ := HBK.out HJ.out z HLA.out (by omega)
        have KF2 := KF z.sec z.out
        have hsh2 := follow_short (l := l) (js := js) (p := p) z.sec z.out
        rw [hb] at KF2 hsh2
        obtain ⟨zs, zi, zo⟩ := z
        simp only at *
        have hpos : 0 ≤ zo := by omega
        generalize hU : T.reverse.map turn ++ rest = U at *
        have hul : m + 1 ≤ U.length := by rw [← hU, List.length_append, List.length_map, List.length_reverse, HM.out]; omega
        have hall : ∀ i, i < m + 1 → ∃ (h1 : i < U.length) (h2 : m - i < T.length), U[i] = turn T[m - i] := by
          intro i hi
          have hm := HM.out
          subst hU
          obtain ⟨h, e⟩ := back_at (T := T) (rest := rest) (i := i) (by omega)
          refine ⟨h, by omega, e.trans ?_⟩
          have e2 : T.length - 1 - i = m - i := by omega
          simp only [e2]
        have HALL := Lib.hid hall
        clear hall
        have e0 : ((m : Int) + 1 == 0) = false := by simp; omega
        have fa := (Fr.refl (fun _ => False) w3).alloc (.cells #[.int .i64 zs, .int .i64 zi, .int .i64 zo] 37)
        have isa := is3.alloc (.cells #[.int .i64 zs, .int .i64 zi, .int .i64 zo] 37)
        have ga := fr_nil g3 fa
        clear hb hneg hU KF HBK k0 k1
        have k0 := isa.cell 0
        have k1 := isa.cell 1
        go_wp2_with fail
        refine (KF2 _ (h1.fr ga fun _ _ => id) (h2.fr ga fun _ _ => id) (h3.fr ga fun _ _ => id)).mono ?_
        clear KF2 k0 k1
        rintro x w5 ⟨A5, c5, rfl, hown5, f5⟩
        have rt5 := wide_rd hown5
        have rt4 := rt.fr (fr_nil fa f5) fun _ _ => id
        have g5 := fr_nil ga f5
        clear hown5 rt f5 fa isa ga is3 t0 t1 t2
        go_wp2_with fail
        go_loopw [67] (fun t wi => ∃ i : Nat, i ≤ m + 1 ∧ t = .int .i64 (i : Nat) ∧ Fr (fun _ => False) w5 wi) (fun t _ => m + 1 - (intOf t).toNat)
        case atStart => exact ⟨0, Nat.zero_le _, rfl, Fr.refl _ _⟩
        case round =>
          obtain ⟨i, hi, rfl, fi⟩ := hrel
          by_cases hlt : i < m + 1
          · obtain ⟨hiu, him, hui⟩ := HALL.out i hlt
            obtain ⟨x0, x1, x2⟩ := rd_st_at (rt4.fr fi fun _ _ => id) him
            obtain ⟨gb, ob, rfl, y0, y1, y2⟩ := rd_st (rt5.fr fi fun _ _ => id) hiu
            rw [hui] at y0 y1 y2
            obtain ⟨r, hr⟩ : ∃ r, r = m - i := ⟨_, rfl⟩
            have er : (m : Int) - (i : Int) = (r : Int) := by omega
            generalize T[m - i] = v at *
            rw [← hr] at x0 x1 x2
            obtain ⟨va, vb, vc⟩ := v
            simp only [turn] at x0 x1 x2 y0 y1 y2
            have i1 : (0 : Int) ≤ (i : Int) := by omega
            have i2 : (i : Int) < (U.length : Int) := by omega
            have i3 : (0 : Int) ≤ (r : Int) := by omega
            have i4 : (r : Int) < (m : Int) + 1 := by omega
            clear hui hr
            have u1 : IntKind.i64.wrap (m : Int) = (m : Int) := IntWalk.i64_in _ (by omega)
            have u2 : IntKind.i64.wrap (r : Int) = (r : Int) := IntWalk.i64_in _ (by omega)
            have n0 := World.new_ne wr _ x0
            have n1 := World.new_ne wr _ x1
            have n2 := World.new_ne wr _ x2
            have n3 := World.new_ne wr _ y0
            have n4 := World.new_ne wr _ y1
            have n5 := World.new_ne wr _ y2
            go_wp2_with fail
            go_region_held3 (fun Wx => Wx.cell? ⟨gt, ot + r * 3, none⟩ = some (.int .i64 va) ∧ Wx.cell? ⟨gt, ot + r * 3 + 1, none⟩ = some (.int .i64 vb) ∧ Wx.cell? ⟨gt, ot + r * 3 + 2, none⟩ = some (.int .i64 vc) ∧
              Wx.cell? ⟨gb, ob + i * 3, none⟩ = some (.int .i64 va) ∧ Wx.cell? ⟨gb, ob + i * 3 + 1, none⟩ = some (.int .i64 vc) ∧ Wx.cell? ⟨gb, ob + i * 3 + 2, none⟩ = some (.int .i64 vb)) (go_keep) (fail)
            all_goals
              clear u1 u2 er n0 n1 n2 n3 n4 n5
              go_wp2_with fail
              go_roundw
              case rel => exact ⟨i + 1, by omega, by go_num, by first | exact ((fi.alloc _).alloc _).drew | exact (((fi.drew).alloc _).alloc _) | exact (((fi.drewN _).alloc _).alloc _)⟩
              case measure => simp [intOf]; omega
          · go_wp2_with fail
            go_ret
            exact ⟨rfl, (fr_nil g5 fi).toBelow0⟩
end Go.Proofs.Ytgommmaipifpaaa

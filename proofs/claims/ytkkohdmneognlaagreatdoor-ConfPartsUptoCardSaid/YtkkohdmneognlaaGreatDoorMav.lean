/- ConfShunts: the walk. -/
import Derived.Test.YtkkohdmneognlaaGreatDoorMau
import Derived.Deep.DeepWitnessRowRef
import Derived.ProofKit
import Derived.SizedLaws
import Derived.LaidLaws
import Derived.Lib.LaidIn
import Derived.BigQuiet
import Derived.Deep.LoopGhost
namespace Go.Proofs.YtkkohdmneognlaaGreatDoor
open Go.RowKit

theorem cellsR_one (l : List Ro) : ∀ u ∈ cellsR l, u.oneCell' = true := by
  intro u hu
  unfold cellsR at hu
  obtain ⟨r, _, hr⟩ := List.mem_flatMap.1 hu
  unfold Ro.cells at hr
  simp only [List.mem_cons, List.not_mem_nil, or_false] at hr
  rcases hr with rfl | rfl | rfl | rfl | rfl | rfl <;> rfl
theorem own_empty (w : World) (t : TypeId) (size : Nat) : (w.alloc (.cells #[] t)).ownsRow w.heap.size t size (.slice (some ⟨w.heap.size, 0, none⟩) 0 0) 0 [] :=
  ⟨by simp, .inr ⟨w.heap.size, 0, #[], rfl, Nat.le_refl _, heap_alloc_new w _, Nat.le_refl _, Nat.zero_le _, by simp, by simp⟩⟩

theorem ro_cell {r : Ro} {k : Nat} (hk : k < 6) : ∃ v, r.cells[k]? = some v := ⟨r.cells[k]'(by unfold Ro.cells; simpa using hk), List.getElem?_eq_getElem _⟩
theorem cellsR_get {l : List Ro} {i k : Nat} (hi : i < l.length) (hk : k < 6) : (cellsR l)[i * 6 + k]? = l[i].cells[k]? := by
  obtain ⟨v, hv⟩ := ro_cell (r := l[i]) hk
  rw [hv]
  exact cellsR_at hi k v hv
/-- a row of routes of which one was written over -/
theorem rd_splice {w : World} {b n : Nat} {cur : Array Value} {t : TypeId} {l : List Ro} {x : Ro} (h : Is w b t (splice cur (n * 6) x.cells)) (hc : cur.toList.take (l.length * 6) = cellsR l) (hs : l.length * 6 ≤ cur.size) (hn : n < l.length) : Rd w (some ⟨b, 0, none⟩) (cellsR (l.set n x)) := fun _ =>
  ⟨b, 0, rfl, h.lt, fun j u hu => by
    have hlen : (l.set n x).length = l.length := List.length_set
    have hj : j < l.length * 6 := by
      have := (List.getElem?_eq_some_iff.1 hu).1
      rw [cellsR_length, hlen] at this
      exact this
    have h6 : x.cells.length = 6 := rfl
    rw [Nat.zero_add, h.cell j, splice_at _ _ _ _ (by rw [h6]; omega), h6]
    obtain ⟨i, k, rfl, hk⟩ : ∃ i k, j = i * 6 + k ∧ k < 6 := ⟨j / 6, j % 6, by omega, by omega⟩
    have hi : i < l.length := by omega
    rw [cellsR_get (by rw [hlen]; exact hi) hk] at hu
    by_cases e : i = n
    · subst e
      rw [if_pos (by omega), show i * 6 + k - i * 6 = k by omega]
      rw [List.getElem_set_self] at hu
      exact hu
    · rw [if_neg (by omega)]
      rw [List.getElem_set_ne (Ne.symm e), ← cellsR_get hi hk, ← hc, List.getElem?_take, if_pos hj] at hu
      rw [← Array.getElem?_toList]
      exact hu⟩
/-- and then its overlap taken away -/
theorem rd_over {w : World} {b n : Nat} {l : List Ro} {x y : Ro} (h : Rd w (some ⟨b, 0, none⟩) (cellsR (l.set n x))) (hn : n < l.length) (he : ∀ k, k < 6 → k ≠ 4 → y.cells[k]? = x.cells[k]?) (v : Value) (hv : y.cells[4]? = some v) : Rd (w.setCell ⟨b, n * 6 + 4, none⟩ v) (some ⟨b, 0, none⟩) (cellsR (l.set n y)) := fun h0 => by
  have hl1 : (l.set n x).length = l.length := List.length_set
  have hl2 : (l.set n y).length = l.length := List.length_set
  obtain ⟨b', o', e, hb, hcell⟩ := h (by rw [cellsR_length, hl1]; rw [cellsR_length, hl2] at h0; exact h0)
  injection e with e
  injection e with e1 e2
  subst e1 e2
  refine ⟨b, 0, rfl, by simpa [World.setCell] using hb, fun j u hu => ?_⟩
  have hj : j < l.length * 6 := by
    have := (List.getElem?_eq_some_iff.1 hu).1
    rw [cellsR_length, hl2] at this
    exact this
  obtain ⟨i, k, rfl, hk⟩ : ∃ i k, j = i * 6 + k ∧ k < 6 := ⟨j / 6, j % 6, by omega, by omega⟩
  have hi : i < l.length := by omega
  rw [cellsR_get (by rw [hl2]; exact hi) hk] at hu
  by_cases e : i * 6 + k = n * 6 + 4
  · obtain rfl : i = n := by omega
    obtain rfl : k = 4 := by omega
    rw [List.getElem_set_self, hv] at hu
    injection hu with hu
    subst hu
    have hex : (w.cell? ⟨b, 0 + (i * 6 + 4), none⟩).isSome = true := by
      obtain ⟨z, hz⟩ := ro_cell (r := (l.set i x)[i]'(by rw [hl1]; exact hi)) hk
      rw [hcell (i * 6 + 4) z (by rw [cellsR_get (by rw [hl1]; exact hi) hk]; exact hz)]
      rfl
    rw [Nat.zero_add] at hex ⊢
    exact World.cell?_setCell_same' _ _ _ hex
  · have hux : (cellsR (l.set n x))[i * 6 + k]? = some u := by
      rw [cellsR_get (by rw [hl1]; exact hi) hk, ← hu]
      by_cases e2 : i = n
      · subst e2
        rw [List.getElem_set_self, List.getElem_set_self]
        exact (he k hk (by omega)).symm
      · rw [List.getElem_set_ne (Ne.symm e2), List.getElem_set_ne (Ne.symm e2)]
    have := hcell _ u hux
    rw [World.cell?_setCell_other _ _ _ _ (by intro e3; injection e3 with _ e3 _; omega)]
    exact this

/-- the station with one route written over, in new memory -/
def withR (C : Cm) (g c n : Nat) (x : Ro) : Cm := { C with A5 := some ⟨g, 0, none⟩, c5 := c, rs := C.rs.set n x }
theorem withR_cf (C : Cm) (g c n : Nat) (x : Ro) : (withR C g c n x).cf = { C.cf with rts := C.cf.rts.set n x.rt } := by
  unfold withR Cm.cf
  simp only [List.map_set]
theorem withR_ok {C : Cm} {g c n : Nat} {x : Ro} {W : World} (h : C.Ok W) (hx : x.Ok W) (hr : Rd W (some ⟨g, 0, none⟩) (cellsR (C.rs.set n x))) (hl : C.rs.length ≤ c) (hc : c ≤ 9223372036854775807) : (withR C g c n x).Ok W := by
  refine { h with rts := hr, each := fun r hm => ?_, l5 := ?_, b5 := ?_, k5 := hc }
  · rcases List.mem_or_eq_of_mem_set hm with k | k
    · exact h.each r k
    · rw [k]; exact hx
  · show (C.rs.set n x).length ≤ c
    rw [List.length_set]; exact hl
  · show (C.rs.set n x).length * 96 ≤ _
    rw [List.length_set]; exact h.b5
theorem withR_chk {C : Cm} {g c n : Nat} {x : Ro} {W : World} (h : (withR C g c n x).Ok W) : Calls Tryz.prog 12 #[.agg #[.slice C.A1 C.l.length C.c1, .slice C.A2 C.js.length C.c2, .slice C.A3 C.sg.length C.c3, .slice C.A4 C.cr.length C.c4, .slice (some ⟨g, 0, none⟩) C.rs.length c, .int .i64 C.tm.age, .int .i64 C.tm.brake, .int .i64 C.tm.hold, .int .i64 C.tm.budget]] W fun e w' => e = .returned (.int .i64 (checkE { C.cf with rts := C.cf.rts.set n x.rt })) ∧ Fr (fun _ => False) W w' := by
  have K := chk_any (withR C g c n x) W h
  rw [withR_cf] at K
  unfold Cm.val Cm.arr withR at K
  dsimp only at K
  rw [List.length_set] at K
  exact K

set_option maxRecDepth 100000 in
set_option maxHeartbeats 8000000 in
theorem shunts_any (C : Cm) (r : Int) (w : World) (h : C.Ok w) (hR : Rds w) (hP : Pow w) :
    Calls Tryz.prog 9 #[C.val, .int .i64 r] w fun e w' => e = .returned (.bool true) ∧ Fr (fun _ => False) w w' := by
  have f0 := (Fr.refl (fun _ => False) w).alloc (.cells C.arr 30)
  have is0 : Is (w.alloc (.cells C.arr 30)) w.heap.size 30 C.arr := Is.new w _ _
  have KL := lives_any (w.alloc (.cells C.arr 30)) (hR.fr f0) (hP.fr f0)
  have KC := fun W (f : Fr (fun _ => False) w W) => chk_any C W (h.fr f)
  unfold Cm.val at KC ⊢
  unfold Cm.arr at f0 is0 KL KC ⊢
  go_enter Tryz.func9, Tryz.ntmps9
  go_wp2_with fail
  refine KL.mono ?_
  clear KL
  rintro _ w1 ⟨rfl, f1⟩
  have F1 := fr_nil f0 f1
  have is1 := is0.fr f1 id
  clear f0 is0 f1
  obtain ⟨p0, p1, p2, p3, p4, p5, p6, p7, p8⟩ := conf_cells is1
  go_wp2_with fail
  refine (KC _ F1).mono ?_
  rintro _ w2 ⟨rfl, f2⟩
  have F2 := fr_nil F1 f2
  have is2 := is1.fr f2 id
  clear F1 is1 f2 p0 p1 p2 p3 p4 p5 p6 p7 p8 KC
  obtain ⟨p0, p1, p2, p3, p4, p5, p6, p7, p8⟩ := conf_cells is2
  by_cases hc : checkE C.cf = 0
  rotate_left
  · have hb : (checkE C.cf != 0) = true := by simpa using hc
    go_wp2_with fail
    go_ret
    exact ⟨rfl, F2⟩
  have hb : (checkE C.cf != 0) = false := by simpa using hc
  by_cases hl : C.rs.length = 0
  · have hb2 : ((C.rs.length : Int) == 0) = true := by simpa using hl
    go_wp2_with fail
    go_ret
    exact ⟨rfl, F2⟩
  have hb2 : ((C.rs.length : Int) == 0) = false := by simpa using hl
  have hparts := check_parts hc
  obtain ⟨hk1, hk2, hk3, hk4, hk5, hk6⟩ := hparts
  have hk4 : C.rs.length ≤ 12 := by have := hk4; unfold Cm.cf at this; rw [List.length_map] at this; exact this
  obtain ⟨n, hn, hnl⟩ := umod r C.rs.length (by omega) (by omega)
  go_upto_region 6 with (fail)
  rw [hn]
  clear hn
  obtain ⟨ga, oa, ha, q0, q1, q2, q3, q4, q5⟩ := rd_ro (h.rts.fr F2 fun _ _ => id) hnl
  have hok := (h.each _ (List.getElem_mem hnl))
  have her : errR C.l C.js C.sg C.rs[n].rt = 0 := routesE_zero hk5 _ (List.mem_map_of_mem (List.getElem_mem hnl))
  have hpin := path_in hc (r := C.rs[n].rt) (List.mem_map_of_mem (List.getElem_mem hnl))
  generalize hx : C.rs[n] = x at *
  have HX := Lib.hid hx
  clear hx
  have isx : Is (w2.alloc (.cells #[.int .i64 x.entry, .int .i64 x.exit, .slice x.a1 x.path.length x.c1, .slice x.a2 x.flank.length x.c2, .slice x.a3 x.over.length x.c3, .bool x.shunt] 43)) w2.heap.size 43 #[.int .i64 x.entry, .int .i64 x.exit, .slice x.a1 x.path.length x.c1, .slice x.a2 x.flank.length x.c2, .slice x.a3 x.over.length x.c3, .bool x.shunt] := Is.new w2 _ _
  have F3 := F2.alloc (.cells #[.int .i64 x.entry, .int .i64 x.exit, .slice x.a1 x.path.length x.c1, .slice x.a2 x.flank.length x.c2, .slice x.a3 x.over.length x.c3, .bool x.shunt] 43)
  have is3 := is2.alloc (.cells #[.int .i64 x.entry, .int .i64 x.exit, .slice x.a1 x.path.length x.c1, .slice x.a2 x.flank.length x.c2, .slice x.a3 x.over.length x.c3, .bool x.shunt] 43)
  have j1 : (0 : Int) ≤ (n : Int) := by omega
  have j2 : (n : Int) < (C.rs.length : Int) := by omega
  rw [ha] at p4 ⊢
  have HA := Lib.hid ha
  clear ha
  have x2 := isx.cell 2
  go_wp2_with fail
  generalize hW3 : w2.alloc (.cells #[.int .i64 x.entry, .int .i64 x.exit, .slice x.a1 x.path.length x.c1, .slice x.a2 x.flank.length x.c2, .slice x.a3 x.over.length x.c3, .bool x.shunt] 43) = w3 at *
  clear x2 p0 p1 p2 p3 p4 p5 p6 p7 p8 q0 q1 q2 q3 q4 q5
  go_loopw [7, 40] (fun v7 vi wr => ∃ (k : Nat) (b : Bool), k ≤ x.path.length ∧ v7 = .bool b ∧ vi = .int .i64 (k : Nat) ∧ (b || linedP C.l (x.path.drop k)) = linedP C.l x.path ∧ Is wr w.heap.size 30 C.arr ∧ Is wr w2.heap.size 43 #[.int .i64 x.entry, .int .i64 x.exit, .slice x.a1 x.path.length x.c1, .slice x.a2 x.flank.length x.c2, .slice x.a3 x.over.length x.c3, .bool x.shunt] ∧ Fr (fun _ => False) w wr) (fun _ i _ => x.path.length - (intOf i).toNat)
  case atStart => exact ⟨0, false, Nat.zero_le _, rfl, rfl, by simp, is3, isx, F3⟩
  case round =>
    clear is3 isx F3
    obtain ⟨k, b, hk, rfl, rfl, hT, is3, isx, F3⟩ := hrel
    by_cases hlt : k < x.path.length
    · obtain ⟨gp, op, hp, t0, t1, t2⟩ := rd_st (hok.path.fr F3 fun _ _ => id) hlt
      have hin := hpin _ (List.getElem_mem hlt)
      obtain ⟨m, hm, hml⟩ := isSecB_true hin
      rw [List.drop_eq_getElem_cons hlt] at hT
      have hm2 : x.path[k].sec = (m : Int) := hm
      have hml' : m < C.l.length := hml
      obtain ⟨gs, og, hs, s0, s1, s2⟩ := rd_sec (h.secs.fr F3 fun _ _ => id) (j := m) hml'
      unfold linedP at hT
      rw [List.any_cons, hm2, Int.toNat_natCast, lineOf_at hml'] at hT
      rw [hm2] at t0
      generalize x.path[k] = y at *
      generalize C.l[m] = z at *
      have j3 : (0 : Int) ≤ (m : Int) := by omega
      have j4 : (m : Int) < (C.l.length : Int) := by omega
      have F4 := F3.alloc (.cells #[.int .i64 (m : Int), .int .i64 y.inn, .int .i64 y.out] 45)
      have is4 := is3.alloc (.cells #[.int .i64 (m : Int), .int .i64 y.inn, .int .i64 y.out] 45)
      have isx4 := isx.alloc (.cells #[.int .i64 (m : Int), .int .i64 y.inn, .int .i64 y.out] 45)
      obtain ⟨p0, p1, p2, p3, p4, p5, p6, p7, p8⟩ := conf_cells is4
      have s2b : (wr.alloc (.cells #[.int .i64 (m : Int), .int .i64 y.inn, .int .i64 y.out] 45)).cell? ⟨gs, og + m * 3 + 2, none⟩ = some (.int .i64 z.line) := by
        rw [World.cell?_alloc_some _ _ _ (by rw [s2]; rfl)]
        exact s2
      have hk2 : x.path.length ≤ 5864062014634 := by have := hok.b1; omega
      rw [hp]
      rw [hs] at p0 ⊢
      have HP := Lib.hid hp
      have HS := Lib.hid hs
      have HT := Lib.hid hT
      clear hp hs hT hm
      cases b with
      | true =>
        go_wp2_with fail
        go_roundw
        case rel => exact ⟨k + 1, true, by omega, rfl, by go_num, HT.out, is4, (by rw [HP.out] at isx4; exact isx4), F4⟩
        case measure => simp [intOf]; omega
      | false =>
        by_cases hz : 0 < z.line
        · have hzb : decide (0 < z.line) = true := by simpa using hz
          go_wp2_with fail
          go_roundw
          case rel => exact ⟨k + 1, true, by omega, rfl, by go_num, (by have := HT.out; rw [hzb] at this; exact this), is4, (by rw [HP.out] at isx4; exact isx4), F4⟩
          case measure => simp [intOf]; omega
        · have hzb : decide (0 < z.line) = false := by simpa using hz
          go_wp2_with fail
          go_roundw
          case rel => exact ⟨k + 1, false, by omega, rfl, by go_num, (by have := HT.out; rw [hzb] at this; exact this), is4, (by rw [HP.out] at isx4; exact isx4), F4⟩
          case measure => simp [intOf]; omega
    · obtain rfl : k = x.path.length := by omega
      rw [List.drop_length] at hT
      have hT2 : b = linedP C.l x.path := by simpa [linedP] using hT
      have HTL := Lib.hid hT2
      clear hT hT2
      obtain ⟨p0, p1, p2, p3, p4, p5, p6, p7, p8⟩ := conf_cells is3
      have x0 := isx.cell 0
      have x1 := isx.cell 1
      have x2 := isx.cell 2
      have x3 := isx.cell 3
      have x4 := isx.cell 4
      have x5 := isx.cell 5
      have xz := isx.frozen 5
      have hne : w.heap.size ≠ w2.heap.size := by have := is2.lt; omega
      have isS := is3.far (p := ⟨w2.heap.size, 5, none⟩) hne (.bool true)
      have isT := isx.set 5 (.bool true)
      have F4 := F3.setCell (p := ⟨w2.heap.size, 5, none⟩) (.inr F2.size) (.bool true)
      simp at isT
      go_upto_region 14 with (fail)
      generalize hWs : wr.setCell ⟨w2.heap.size, 5, none⟩ (.bool true) = ws at *
      clear p0 p1 p2 p3 p4 p5 p6 p7 p8 x0 x1 x2 x3 x4 x5 xz is3 isx F3 hWs
      obtain ⟨p0, p1, p2, p3, p4, p5, p6, p7, p8⟩ := conf_cells isS
      go_upto_region 15 with (fail)
      have isB : Is (ws.alloc (.cells C.arr 30)) ws.heap.size 30 C.arr := Is.new ws _ _
      have isS5 := isS.alloc (.cells C.arr 30)
      have isT5 := isT.alloc (.cells C.arr 30)
      have F5 := F4.alloc (.cells C.arr 30)
      have hTs := isT.lt
      have hBT : ws.heap.size ≠ w2.heap.size := by omega
      unfold Cm.arr at isB isS5 isT5 F5
      generalize ws.alloc (.cells #[.slice C.A1 C.l.length C.c1, .slice C.A2 C.js.length C.c2, .slice C.A3 C.sg.length C.c3, .slice C.A4 C.cr.length C.c4, .slice C.A5 C.rs.length C.c5, .int .i64 C.tm.age, .int .i64 C.tm.brake, .int .i64 C.tm.hold, .int .i64 C.tm.budget] 30) = wt at *
      clear p0 p1 p2 p3 p4 p5 p6 p7 p8
      obtain ⟨i0, hi0, hz0, hz1, hz2⟩ := info_parts Tryz.infoRo
      have c4 := (isS5.alloc (.cells #[] 43)).cell 4
      simp at c4
      have F6 := F5.alloc (.cells #[] 43)
      have hrd := h.rts.fr F6 fun _ _ => id
      go_wp2_with (at_builtin; refine wpList_append_wide _ rfl _ _ 26 rfl wt.heap.size 43 i0 _ 6 96 Tryz.underlying26 hi0 hz0 hz1 hz2 rfl (by decide) _ 0 [] rfl (own_empty wt 43 6) C.A5 C.c5 C.rs.length (cellsR C.rs) (cellsR_length _) rfl hrd (cellsR_one _) (by unfold maxLen; omega) (by omega) (by simp) ?_)
      intro v' w6 hown hg hat
      obtain ⟨A', c', rfl, hc1, hc2, hA', _⟩ := wide_form hown
      obtain ⟨g', rfl, hg'⟩ := hA' (by omega)
      have hgl : wt.heap.size ≤ g' := (World.ownsRow.lt hown g' rfl).1
      have f6 : Fr (fun k => k = wt.heap.size) (wt.alloc (.cells #[] 43)) w6 := (Fr.refl _ _).grown hg fun k hk => .inl (by injection hk with hk; exact hk.symm)
      have F7 : Fr (fun _ => False) w w6 := F6.grown hg fun k hk => .inr (by injection hk with hk; have := F5.size; simp at hk; omega)
      have isB6 := (isB.alloc (.cells #[] 43)).fr f6 (by have := isB.lt; omega)
      have isT6 := (isT5.alloc (.cells #[] 43)).fr f6 (by have := isT5.lt; omega)
      have b4 := isB6.cell 4
      have bz := isB6.frozen 4
      simp at b4
      have hBl := isB.lt
      have hTl := isT5.lt
      obtain ⟨cur, hcur, hcs, hct⟩ : ∃ cur, Is w6 g' 43 cur ∧ cur.size = c' * 6 ∧ cur.toList.take (C.rs.length * 6) = cellsR C.rs := by
        rcases hown.2 with ⟨hv, _⟩ | ⟨g, cap, cur, hv, _, hb, _, _, hs, ht⟩
        · cases hv
        · injection hv with hv _ hv3
          injection hv with hv
          injection hv with hv
          subst hv hv3
          exact ⟨cur, hb, hs, ht⟩
      clear hown hg hat f6 isB isT5 F6 F5 c4 hrd isS5
      go_upto_region 16 with (fail)
      have isB7 := isB6.set 4 (.slice (some ⟨g', 0, none⟩) C.rs.length c')
      have isT7 := isT6.far (p := ⟨ws.heap.size, 4, none⟩) (by simpa using Ne.symm hBT) (.slice (some ⟨g', 0, none⟩) C.rs.length c')
      have isN7 := hcur.far (p := ⟨ws.heap.size, 4, none⟩) (by simp; omega) (.slice (some ⟨g', 0, none⟩) C.rs.length c')
      have F8 := F7.setCell (p := ⟨ws.heap.size, 4, none⟩) (.inr (Nat.le_trans F2.size (Nat.le_of_lt hTs))) (.slice (some ⟨g', 0, none⟩) C.rs.length c')
      simp at isB7
      generalize w6.setCell ⟨ws.heap.size, 4, none⟩ (.slice (some ⟨g', 0, none⟩) C.rs.length c') = w7 at *
      clear isB6 isT6 hcur F7 b4 bz
      have hcell : ∀ k v, k < 6 → x.cells[k]? = some v → w7.cell? ⟨g', n * 6 + k, none⟩ = some v := fun k v hk hv => by
        rw [isN7.cell, ← Array.getElem?_toList]
        have e1 : (cellsR C.rs)[n * 6 + k]? = some v := by rw [cellsR_get hnl hk, HX.out]; exact hv
        rw [← hct, List.getElem?_take, if_pos (by omega)] at e1
        exact e1
      have e0 := hcell 0 _ (by decide) rfl
      have e1 := hcell 1 _ (by decide) rfl
      have e2 := hcell 2 _ (by decide) rfl
      have e3 := hcell 3 _ (by decide) rfl
      have e4 := hcell 4 _ (by decide) rfl
      have e5 := hcell 5 _ (by decide) rfl
      rw [Nat.add_zero] at e0
      have ez := isN7.frozen
      have b4 := isB7.cell 4
      have t0 := isT7.cell 0
      have t1 := isT7.cell 1
      have t2 := isT7.cell 2
      have t3 := isT7.cell 3
      have t4 := isT7.cell 4
      have t5 := isT7.cell 5
      simp only [List.getElem?_toArray, List.getElem?_cons_zero, List.getElem?_cons_succ] at b4 t0 t1 t2 t3 t4 t5
      go_upto_region 17 with (fail)
      have isN8 := Is.setCells ({ x with shunt := true } : Ro).cells (n * 6) w7 cur isN7
      have F9 : Fr (fun _ => False) w _ := F8.setCells ({ x with shunt := true } : Ro).cells (n * 6) (b := g') (.inr (by have := F2.size; omega))
      have fs9 := (Fr.refl (fun k => k = g') w7).setCells ({ x with shunt := true } : Ro).cells (n * 6) (b := g') (.inl rfl)
      have isB9 := isB7.fr fs9 (by omega)
      have isT9 := isT7.fr fs9 (by omega)
      have hrd9 := rd_splice isN8 hct (by omega) hnl
      simp only [Ro.cells, World.setCells] at F9 isB9 isT9 hrd9
      simp only [Ro.cells, World.setCells] at isN8
      generalize ((((((w7.setCell ⟨g', n * 6, none⟩ (.int .i64 x.entry)).setCell ⟨g', n * 6 + 1, none⟩ (.int .i64 x.exit)).setCell ⟨g', n * 6 + 2, none⟩ (.slice x.a1 x.path.length x.c1)).setCell ⟨g', n * 6 + 3, none⟩ (.slice x.a2 x.flank.length x.c2)).setCell ⟨g', n * 6 + 4, none⟩ (.slice x.a3 x.over.length x.c3)).setCell ⟨g', n * 6 + 5, none⟩ (.bool true)) = w9 at *
      clear e0 e1 e2 e3 e4 e5 ez b4 t0 t1 t2 t3 t4 t5 isB7 isT7 isN7 F8 fs9 hcell
      have hx9 : ({ x with shunt := true } : Ro).Ok w9 := by
        have a := hok.fr F9
        exact ⟨a.path, a.flank, a.over, a.l1, a.l2, a.l3, a.b1, a.b2, a.b3, a.k1, a.k2, a.k3⟩
      unfold maxLen at hc2
      have K1 := withR_chk (withR_ok (h.fr F9) hx9 hrd9 hc1 (by omega))
      have hE1 : checkE { C.cf with rts := C.cf.rts.set n ({ x with shunt := true } : Ro).rt } = if linedB C.l x.path = true then 9 else if x.over = [] then 0 else 11 := by
        rw [check_set hc (by unfold Cm.cf; rw [List.length_map]; exact hnl)]
        exact shunt_err her x.over
      rw [hE1] at K1
      clear hE1
      obtain ⟨E1, hE1⟩ : ∃ E, E = if linedB C.l x.path = true then (9 : Int) else if x.over = [] then 0 else 11 := ⟨_, rfl⟩
      rw [← hE1] at K1
      have HE1 := Lib.hid hE1
      clear hE1
      obtain ⟨p0, p1, p2, p3, p4, p5, p6, p7, p8⟩ : w9.cell? ⟨ws.heap.size, 0, none⟩ = some (.slice C.A1 C.l.length C.c1) ∧ w9.cell? ⟨ws.heap.size, 1, none⟩ = some (.slice C.A2 C.js.length C.c2) ∧ w9.cell? ⟨ws.heap.size, 2, none⟩ = some (.slice C.A3 C.sg.length C.c3) ∧ w9.cell? ⟨ws.heap.size, 3, none⟩ = some (.slice C.A4 C.cr.length C.c4) ∧ w9.cell? ⟨ws.heap.size, 4, none⟩ = some (.slice (some ⟨g', 0, none⟩) C.rs.length c') ∧ w9.cell? ⟨ws.heap.size, 5, none⟩ = some (.int .i64 C.tm.age) ∧ w9.cell? ⟨ws.heap.size, 6, none⟩ = some (.int .i64 C.tm.brake) ∧ w9.cell? ⟨ws.heap.size, 7, none⟩ = some (.int .i64 C.tm.hold) ∧ w9.cell? ⟨ws.heap.size, 8, none⟩ = some (.int .i64 C.tm.budget) :=
        ⟨isB9.cell 0, isB9.cell 1, isB9.cell 2, isB9.cell 3, isB9.cell 4, isB9.cell 5, isB9.cell 6, isB9.cell 7, isB9.cell 8⟩
      go_wp2_with fail
      refine K1.mono ?_
      rintro _ w10 ⟨rfl, f10⟩
      have F10 := fr_nil F9 f10
      have isB10 := isB9.fr f10 id
      have isT10 := isT9.fr f10 id
      have isN10 := isN8.fr f10 id
      have hrd10 := hrd9.fr f10 fun _ _ => id
      clear K1 hx9 isB9 isT9 isN8 hrd9 F9 f10 p0 p1 p2 p3 p4 p5 p6 p7 p8
      have ez := isN10.frozen
      obtain ⟨v4, e4⟩ : ∃ v, w10.cell? ⟨g', n * 6 + 4, none⟩ = some v := by
        obtain ⟨b', o', e, _, hcl⟩ := hrd10 (by rw [cellsR_length, List.length_set]; omega)
        injection e with e
        injection e with e1 e2
        subst e1 e2
        have := hcl (n * 6 + 4) _ (by rw [cellsR_get (by rw [List.length_set]; exact hnl) (by decide), List.getElem_set_self]; rfl)
        rw [Nat.zero_add] at this
        exact ⟨_, this⟩
      have b4 := isB10.cell 4
      simp only [List.getElem?_toArray, List.getElem?_cons_zero, List.getElem?_cons_succ] at b4
      go_upto_region 19 with (fail)
      have hrd11 := rd_over (y := { x with shunt := true, over := [], a3 := none, c3 := 0 }) hrd10 hnl (fun k hk h4 => match k with
        | 0 => rfl
        | 1 => rfl
        | 2 => rfl
        | 3 => rfl
        | 4 => absurd rfl h4
        | 5 => rfl
        | k + 6 => absurd hk (by omega)) (.slice none 0 0) rfl
      have F11 := F10.setCell (p := ⟨g', n * 6 + 4, none⟩) (.inr (by show w.heap.size ≤ g'; have := F2.size; omega)) (.slice none 0 0)
      have isB11 := isB10.far (p := ⟨g', n * 6 + 4, none⟩) (by show ws.heap.size ≠ g'; omega) (.slice none 0 0)
      have isT11 := isT10.far (p := ⟨g', n * 6 + 4, none⟩) (by show w2.heap.size ≠ g'; omega) (.slice none 0 0)
      generalize w10.setCell ⟨g', n * 6 + 4, none⟩ (.slice none 0 0) = w11 at *
      clear isN10 ez e4 b4 hrd10 F10 isB10 isT10
      have hx11 : ({ x with shunt := true, over := [], a3 := none, c3 := 0 } : Ro).Ok w11 := by
        have a := hok.fr F11
        exact ⟨a.path, a.flank, (fun h0 => by simp at h0), a.l1, a.l2, Nat.le_refl _, a.b1, a.b2, Nat.zero_le _, a.k1, a.k2, Nat.zero_le _⟩
      have K2 := withR_chk (withR_ok (h.fr F11) hx11 hrd11 hc1 (by omega))
      have hE2 : checkE { C.cf with rts := C.cf.rts.set n ({ x with shunt := true, over := [], a3 := none, c3 := 0 } : Ro).rt } = if linedB C.l x.path = true then 9 else 0 := by
        rw [check_set hc (by unfold Cm.cf; rw [List.length_map]; exact hnl)]
        exact (shunt_err her []).trans (by rw [if_pos rfl]; rfl)
      rw [hE2] at K2
      clear hE2
      obtain ⟨E2, hE2⟩ : ∃ E, E = if linedB C.l x.path = true then (9 : Int) else 0 := ⟨_, rfl⟩
      rw [← hE2] at K2
      have HE2 := Lib.hid hE2
      clear hE2
      obtain ⟨p0, p1, p2, p3, p4, p5, p6, p7, p8⟩ : w11.cell? ⟨ws.heap.size, 0, none⟩ = some (.slice C.A1 C.l.length C.c1) ∧ w11.cell? ⟨ws.heap.size, 1, none⟩ = some (.slice C.A2 C.js.length C.c2) ∧ w11.cell? ⟨ws.heap.size, 2, none⟩ = some (.slice C.A3 C.sg.length C.c3) ∧ w11.cell? ⟨ws.heap.size, 3, none⟩ = some (.slice C.A4 C.cr.length C.c4) ∧ w11.cell? ⟨ws.heap.size, 4, none⟩ = some (.slice (some ⟨g', 0, none⟩) C.rs.length c') ∧ w11.cell? ⟨ws.heap.size, 5, none⟩ = some (.int .i64 C.tm.age) ∧ w11.cell? ⟨ws.heap.size, 6, none⟩ = some (.int .i64 C.tm.brake) ∧ w11.cell? ⟨ws.heap.size, 7, none⟩ = some (.int .i64 C.tm.hold) ∧ w11.cell? ⟨ws.heap.size, 8, none⟩ = some (.int .i64 C.tm.budget) :=
        ⟨isB11.cell 0, isB11.cell 1, isB11.cell 2, isB11.cell 3, isB11.cell 4, isB11.cell 5, isB11.cell 6, isB11.cell 7, isB11.cell 8⟩
      go_wp2_with fail
      refine K2.mono ?_
      rintro _ w12 ⟨rfl, f12⟩
      have F12 := fr_nil F11 f12
      have x4 := (isT11.fr f12 id).cell 4
      simp only [List.getElem?_toArray, List.getElem?_cons_zero, List.getElem?_cons_succ] at x4
      have hbl : b = linedB C.l x.path := by
        refine HTL.out.trans (lined_eq ?_ _)
        have := hk1
        unfold checkB at this
        simp only [Bool.and_eq_true] at this
        exact this.2.1
      have e1 := HE1.out
      have e2 := HE2.out
      clear K2 HE1 HE2 HTL p0 p1 p2 p3 p4 p5 p6 p7 p8 F11 isB11 isT11 f12 hx11 hrd11
      rw [← hbl] at e1 e2
      clear hbl
      cases b with
      | true =>
        rw [if_pos rfl] at e1 e2
        subst e1 e2
        go_wp2_with fail
        go_ret
        exact ⟨rfl, F12⟩
      | false =>
        rw [if_neg (by decide)] at e1 e2
        by_cases ho : x.over = []
        · rw [if_pos ho] at e1
          subst e1 e2
          have ho2 : x.over.length = 0 := by rw [ho]; rfl
          rw [ho2] at x4
          go_wp2_with fail
          go_ret
          exact ⟨rfl, F12⟩
        · rw [if_neg ho] at e1
          subst e1 e2
          have ho2 : 0 < x.over.length := List.length_pos_iff.2 ho
          have ho3 : decide ((0 : Int) < (x.over.length : Int)) = true := by simp; omega
          go_wp2_with fail
          go_ret
          exact ⟨rfl, F12⟩
end Go.Proofs.YtkkohdmneognlaaGreatDoor
/- A world for the witnesses: the listed variables hold what their initialisers lay. -/
namespace Go.Proofs.YtkkohdmneognlaaGreatDoor
open Go.ChangeShapes Go.WideShapes Go.ChangeAt Go.RowKit Go.Lib

def litOf : DataW Unit → List Value
  | .lit (.int k z) => [.int k z]
  | _ => []
def litsOf : DataW Unit → List Value
  | .agg l => l.flatMap fun d => match d with
    | .agg l2 => l2.flatMap litOf
    | d => litOf d
  | _ => []
noncomputable def laidWorld (os : Os) : World :=
  let N := (World.settled Tryz.prog os).heap.size
  let w0 := World.holding Tryz.prog os ⟨#[
    .cells #[.string ⟨#[118, 97, 108, 117, 101, 32, 111, 117, 116, 32, 111, 102, 32, 114, 97, 110, 103, 101]⟩] 240,
    .cells #[.string ⟨#[105, 110, 118, 97, 108, 105, 100, 32, 115, 121, 110, 116, 97, 120]⟩] 240,
    .cells (((List.range 21).map fun i => Value.int .u16 (whiteT.getD i 0 : Int))).toArray 232,
    .cells #[.slice (some ⟨N + 2, 0, none⟩) 7 7, .slice none 0 0, .int .i64 2] 229], #[], []⟩
  let put (h : Array Obj) (g : Nat) (cs : Array Value) : Array Obj := h.modify g fun
    | .cells _ t frozen => .cells cs t frozen
    | o => o
  let h0 := put w0.heap 0 (litsOf Rows.laid_strings_asciiSpace).toArray
  let h2 := put h0 2 #[.pointer (some ⟨N + 3, 0, none⟩)]
  let h3 := put h2 3 #[.iface 238 (.pointer (some ⟨N + 1, 0, none⟩))]
  let h4 := put h3 4 #[.iface 238 (.pointer (some ⟨N, 0, none⟩))]
  let h5 := put h4 5 (litsOf Rows.laid_internal_strconv_uint64pow10).toArray
  let h6 := put h5 6 (litsOf Rows.laid_unicode_utf8_first).toArray
  let h7 := put h6 7 (litsOf Rows.laid_unicode_utf8_acceptRanges).toArray
  let h8 := put h7 8 (litsOf Rows.laid_math_bits_deBruijn32tab).toArray
  let h9 := put h8 9 (litsOf Rows.laid_math_bits_deBruijn64tab).toArray
  { w0 with heap := h9 }
theorem g8 : Tryz.prog.globalNamed "math/bits.deBruijn32tab" = some 8 := by kernel_rfl
theorem g9 : Tryz.prog.globalNamed "math/bits.deBruijn64tab" = some 9 := by kernel_rfl
/-- an empty configuration, a number -/
def wArgs : Array Value := #[.agg zeroCf, .int .i64 0]
noncomputable abbrev N0 : Nat := (World.settled Tryz.prog default).heap.size
theorem piece0 (os : Os) : LaidIn Tryz.prog ((laidWorld os).forCall (fun _ _ => 0) ⟨#[], wArgs, []⟩).memory [("math/bits.deBruijn32tab", Rows.laid_math_bits_deBruijn32tab)] [8] :=
  LaidIn.of_run [8] 8 (by kernel_rfl) (by kernel_rfl) (by kernel_rfl) (by kernel_rfl)
theorem piece1 (os : Os) : LaidIn Tryz.prog ((laidWorld os).forCall (fun _ _ => 0) ⟨#[], wArgs, []⟩).memory [("math/bits.deBruijn64tab", Rows.laid_math_bits_deBruijn64tab)] [9] :=
  LaidIn.of_run [9] 8 (by kernel_rfl) (by kernel_rfl) (by kernel_rfl) (by kernel_rfl)
theorem piece2 (os : Os) : LaidIn Tryz.prog ((laidWorld os).forCall (fun _ _ => 0) ⟨#[], wArgs, []⟩).memory [("internal/strconv.uint64pow10", Rows.laid_internal_strconv_uint64pow10)] [5] :=
  LaidIn.of_run [5] 8 (by kernel_rfl) (by kernel_rfl) (by kernel_rfl) (by kernel_rfl)
theorem piece3 (os : Os) : LaidIn Tryz.prog ((laidWorld os).forCall (fun _ _ => 0) ⟨#[], wArgs, []⟩).memory [("unicode/utf8.acceptRanges", Rows.laid_unicode_utf8_acceptRanges)] [7] :=
  LaidIn.of_run [7] 8 (by kernel_rfl) (by kernel_rfl) (by kernel_rfl) (by kernel_rfl)
theorem piece4 (os : Os) : LaidIn Tryz.prog ((laidWorld os).forCall (fun _ _ => 0) ⟨#[], wArgs, []⟩).memory [("strconv.ErrRange", Rows.laid_strconv_ErrRange)] [4, N0] :=
  LaidIn.of_run [4, N0] 8 (by kernel_rfl) (by kernel_rfl) (by kernel_rfl) (by kernel_rfl)
theorem piece5 (os : Os) : LaidIn Tryz.prog ((laidWorld os).forCall (fun _ _ => 0) ⟨#[], wArgs, []⟩).memory [("strconv.ErrSyntax", Rows.laid_strconv_ErrSyntax)] [3, N0 + 1] :=
  LaidIn.of_run [3, N0 + 1] 8 (by kernel_rfl) (by kernel_rfl) (by kernel_rfl) (by kernel_rfl)
theorem piece6 (os : Os) : LaidIn Tryz.prog ((laidWorld os).forCall (fun _ _ => 0) ⟨#[], wArgs, []⟩).memory [("unicode.White_Space", Rows.laid_unicode_White_Space)] [2, N0 + 3, N0 + 2] :=
  LaidIn.of_run [2, N0 + 3, N0 + 2] 8 (by kernel_rfl) (by kernel_rfl) (by kernel_rfl) (by kernel_rfl)
theorem piece7 (os : Os) : LaidIn Tryz.prog ((laidWorld os).forCall (fun _ _ => 0) ⟨#[], wArgs, []⟩).memory [("strings.asciiSpace", Rows.laid_strings_asciiSpace)] [0] :=
  LaidIn.of_run [0] 8 (by kernel_rfl) (by kernel_rfl) (by kernel_rfl) (by kernel_rfl)
theorem piece8 (os : Os) : LaidIn Tryz.prog ((laidWorld os).forCall (fun _ _ => 0) ⟨#[], wArgs, []⟩).memory [("unicode/utf8.first", Rows.laid_unicode_utf8_first)] [6] :=
  LaidIn.of_run [6] 8 (by kernel_rfl) (by kernel_rfl) (by kernel_rfl) (by kernel_rfl)
theorem laid_met (os : Os) : laidMet Tryz.prog Rows.confShuntsRow.laid ((laidWorld os).forCall (fun _ _ => 0) ⟨#[], wArgs, []⟩).memory :=
  (((((((((piece0 os).append (piece1 os) (by kernel_rfl)).append (piece2 os) (by kernel_rfl)).append (piece3 os) (by kernel_rfl)).append (piece4 os) (by kernel_rfl)).append (piece5 os) (by kernel_rfl)).append (piece6 os) (by kernel_rfl)).append (piece7 os) (by kernel_rfl)).append (piece8 os) (by kernel_rfl)).met
end Go.Proofs.YtkkohdmneognlaaGreatDoor
/- A configuration that came in, of small bulk: how many things it holds in all. -/
namespace Go.Proofs.YtkkohdmneognlaaGreatDoor
open Go.RowKit

theorem bulk_pos {H : Type} (d : DataW H) : 1 ≤ Rows.uptoBulk d := by
  cases d with
  | lit l => cases l <;> simp [Rows.uptoBulk]
  | _ => simp [Rows.uptoBulk]
theorem bulk_len {H : Type} : ∀ es : List (DataW H), es.length ≤ Rows.uptoBulkAll es
  | [] => Nat.le_refl _
  | d :: r => by
    have ih := bulk_len r
    have h1 := bulk_pos d
    simp only [Rows.uptoBulkAll, List.length_cons]
    omega
theorem sl_small {H : Type} {d : DataW H} {n : Nat} (h : SL d n) : n ≤ Rows.uptoBulk d := by
  rcases h with ⟨_, rfl⟩ | ⟨es, rest, rfl, rfl⟩
  · exact Nat.zero_le _
  · have := bulk_len es
    simp only [Rows.uptoBulk]
    omega
/-- how many things a route holds -/
def Ro.total (r : Ro) : Nat := 1 + r.path.length + r.flank.length + r.over.length
def totalR : List Ro → Nat
  | [] => 0
  | r :: l => r.total + totalR l
/-- how many things a configuration holds -/
def Cm.total (C : Cm) : Nat := C.l.length + C.js.length + C.sg.length + C.cr.length + totalR C.rs
theorem ro_small {H : Type} {w : World} {r : Ro} {d : DataW H} (h : RoIn w r d) : r.total ≤ Rows.uptoBulk d := by
  obtain ⟨_, d0, d1, d2, d3, d4, d5, rfl, s2, s3, s4⟩ := h
  have a := sl_small s2
  have b := sl_small s3
  have c := sl_small s4
  unfold Ro.total
  simp only [Rows.uptoBulk, Rows.uptoBulkAll]
  omega
theorem ros_small {H : Type} {w : World} : ∀ (l : List Ro) (es : List (DataW H)), es.length = l.length → (∀ i (hi : i < l.length), ∃ x, es[i]? = some x ∧ RoIn w l[i] x) → totalR l ≤ Rows.uptoBulkAll es
  | [], _, _, _ => Nat.zero_le _
  | r :: l, [], hl, _ => by simp at hl
  | r :: l, e :: es, hl, h => by
    obtain ⟨x, hx, hr⟩ := h 0 (by simp)
    simp only [List.getElem?_cons_zero, Option.some.injEq] at hx
    subst hx
    have a := ro_small hr
    have b := ros_small l es (by simpa using hl) fun i hi => by
      obtain ⟨x, hx, hr⟩ := h (i + 1) (by simpa using hi)
      exact ⟨x, by simpa using hx, by simpa using hr⟩
    simp only [totalR, Rows.uptoBulkAll]
    simp only [List.getElem_cons_zero] at a
    omega
theorem totalR_mem : ∀ (l : List Ro) (r : Ro), r ∈ l → r.total ≤ totalR l
  | r :: l, q, h => by
    simp only [totalR]
    rcases List.mem_cons.1 h with rfl | h
    · omega
    · have := totalR_mem l q h
      omega
theorem totalR_len : ∀ l : List Ro, l.length ≤ totalR l
  | [] => Nat.le_refl _
  | r :: l => by
    have := totalR_len l
    simp only [totalR, List.length_cons, Ro.total]
    omega
theorem conf_total {H : Type} {w : World} {C : Cm} {d : DataW H} (h : CfIn w C d) : C.total ≤ Rows.uptoBulk d := by
  obtain ⟨d1, d2, d3, d4, d5, d6, rfl, s1, s2, s3, s4, s5⟩ := h.data
  have a1 := sl_small s1
  have a2 := sl_small s2
  have a3 := sl_small s3
  have a4 := sl_small s4
  have a5 : totalR C.rs ≤ Rows.uptoBulk d5 := by
    rcases s5 with ⟨_, e⟩ | ⟨es, rest, rfl, hl, he⟩
    · rw [e]; exact Nat.zero_le _
    · have := ros_small C.rs es hl he
      simp only [Rows.uptoBulk]
      omega
  unfold Cm.total
  simp only [Rows.uptoBulk, Rows.uptoBulkAll]
  omega
/-- what came in, of small bulk, is a configuration that the contracts take -/
theorem small_conf {H : Type} {w : World} {C : Cm} {d : DataW H} {ds : List (DataW H)} (hk : Rows.uptoSmall H (d :: ds) = true) (h : CfIn w C d) : C.Ok w ∧ C.total ≤ 1048576 := by
  have hk2 : Rows.uptoBulkAll (d :: ds) ≤ 1048576 := of_decide_eq_true hk
  simp only [Rows.uptoBulkAll] at hk2
  have ht := conf_total h
  have m1 := h.m1
  have m2 := h.m2
  have m3 := h.m3
  have m4 := h.m4
  have m5 := h.m5
  unfold maxLen at m1 m2 m3 m4 m5
  have hl := totalR_len C.rs
  have htt : C.total = C.l.length + C.js.length + C.sg.length + C.cr.length + totalR C.rs := rfl
  refine ⟨⟨h.secs, h.jos, h.sigs, h.crs, h.rts, fun r hr => ?_, h.l1, h.l2, h.l3, h.l4, h.l5, by omega, by omega, by omega, by omega, by omega, by omega, by omega, by omega, by omega, by omega⟩, by omega⟩
  have hrt := totalR_mem C.rs r hr
  have hre : r.total = 1 + r.path.length + r.flank.length + r.over.length := rfl
  obtain ⟨d1, d2, d3, d4, d5, d6, rfl, s1, s2, s3, s4, s5⟩ := h.data
  rcases s5 with ⟨_, e⟩ | ⟨es, rest, rfl, _, he⟩
  · rw [e] at hr; cases hr
  · obtain ⟨i, hi, rfl⟩ := List.mem_iff_getElem.1 hr
    obtain ⟨x, hxi, ⟨r1, r2, r3, i1, i2, i3, n1, n2, n3⟩, _⟩ := he i hi
    unfold maxLen at n1 n2 n3
    exact ⟨r1, r2, r3, i1, i2, i3, by omega, by omega, by omega, by omega, by omega, by omega⟩
end Go.Proofs.YtkkohdmneognlaaGreatDoor
/- All that the laws of stage 6 have in common. -/
namespace Go.Proofs.YtkkohdmneognlaaGreatDoor
theorem all6 : True := trivial
end Go.Proofs.YtkkohdmneognlaaGreatDoor
/- The document's own kind, in, Sections. -/
namespace Go.Proofs.YtkkohdmneognlaaGreatDoor
open Go.RowKit

set_option maxHeartbeats 4000000 in
theorem rkind_any (C : Cm) (s : Int) (w : World) (h : C.Ok w) : Calls Tryz.prog 60 #[C.val, .int .i64 s] w fun e w' => e = .returned (.int .i64 (rkind C.l s)) ∧ Fr (fun _ => False) w w' := by
  unfold rkind Cm.val Cm.arr
  cases hs : isSecB C.l.length s
  · rw [if_neg (by decide)]
    have hn : s < 0 ∨ (C.l.length : Int) ≤ s := by
      unfold isSecB at hs
      simp at hs
      omega
    rcases hn with hn | hn
    · go_enter Tryz.func60, Tryz.ntmps60
      go_wp2_with fail
      go_ret
      exact ⟨rfl, (Fr.refl _ _).alloc _⟩
    · have h0 : ¬ s < 0 := by omega
      go_enter Tryz.func60, Tryz.ntmps60
      go_wp2_with fail
      all_goals try (exfalso; omega)
      go_ret
      exact ⟨rfl, (Fr.refl _ _).alloc _⟩
  · rw [if_pos rfl]
    obtain ⟨k, rfl, hk⟩ := isSecB_true hs
    obtain ⟨g, o, hA, q0, q1, q2⟩ := rd_sec (h.secs.fr ((Fr.refl (fun _ => False) w).alloc (.cells #[.slice C.A1 C.l.length C.c1, .slice C.A2 C.js.length C.c2, .slice C.A3 C.sg.length C.c3, .slice C.A4 C.cr.length C.c4, .slice C.A5 C.rs.length C.c5, .int .i64 C.tm.age, .int .i64 C.tm.brake, .int .i64 C.tm.hold, .int .i64 C.tm.budget] 30)) fun _ _ => id) hk
    rw [hA] at q0 q1 q2 ⊢
    have hkk : kindOf C.l k = C.l[k].kind := kindOf_at hk
    rw [Int.toNat_natCast, hkk]
    have h0 : ¬ (k : Int) < 0 := by omega
    have h1 : ¬ (C.l.length : Int) ≤ (k : Int) := by omega
    generalize C.l[k] = v at *
    clear hA hs
    go_enter Tryz.func60, Tryz.ntmps60
    go_wp2_with fail
    all_goals try (exfalso; omega)
    go_ret
    exact ⟨rfl, (Fr.refl _ _).alloc _⟩

set_option maxHeartbeats 4000000 in
theorem rin_any {A : Option Addr} {c : Nat} (l : List Int) (n : Int) (w : World) (h : Rd w A (l.map (Value.int .i64))) (hl : l.length ≤ 9223372036854775807) : Calls Tryz.prog 52 #[.slice A l.length c, .int .i64 n] w fun e w' => e = .returned (.bool (inL l n)) ∧ Fr (fun _ => False) w w' := by
  generalize hT : inL l n = T
  have HT := Lib.hid hT
  clear hT
  go_enter Tryz.func52, Tryz.ntmps52
  go_wp2_with fail
  go_loopw [9] (fun v9 wr => ∃ k : Nat, k ≤ l.length ∧ v9 = .int .i64 (k : Nat) ∧ inL (l.drop k) n = T ∧ Fr (fun _ => False) w wr) (fun i _ => l.length - (intOf i).toNat)
  case atStart => exact ⟨0, Nat.zero_le _, rfl, HT.out, Fr.refl _ _⟩
  case round =>
    clear HT
    obtain ⟨k, hk, rfl, hT, fr⟩ := hrel
    by_cases hlt : k < l.length
    · obtain ⟨g, o, ha, q0⟩ := rd_int (h.fr fr fun _ _ => id) hlt
      rw [List.drop_eq_getElem_cons hlt] at hT
      unfold inL at hT
      rw [List.any_cons] at hT
      generalize hrest : (l.drop (k + 1)).any (fun x => decide (x = n)) = rest at hT
      have HR := Lib.hid hrest
      clear hrest
      generalize l[k] = x at *
      rw [ha]
      have HA := Lib.hid ha
      clear ha
      by_cases hx : x = n
      · subst hx
        rw [decide_eq_true rfl, Bool.true_or] at hT
        subst hT
        go_wp2_with fail
        go_ret
        exact ⟨rfl, fr⟩
      · rw [decide_eq_false hx, Bool.false_or] at hT
        have HT := Lib.hid hT
        clear hT
        go_wp2_with fail
        go_roundw
        case rel => exact ⟨k + 1, by omega, by go_num, HR.out.trans HT.out, fr⟩
        case measure => simp [intOf]; omega
    · rw [List.drop_eq_nil_of_le (by omega)] at hT
      obtain rfl : T = false := by rw [← hT]; rfl
      go_wp2_with fail
      go_ret
      exact ⟨rfl, fr⟩

def secsL : List St → List Int
  | [] => []
  | v :: r => [v.sec] ++ secsL r
theorem secsL_append : ∀ (a b : List St), secsL (a ++ b) = secsL a ++ secsL b
  | [], _ => rfl
  | v :: r, b => by rw [List.cons_append, secsL, secsL, secsL_append r b, List.append_assoc]
theorem secsL_length : ∀ (l : List St), (secsL l).length = l.length * 1
  | [] => rfl
  | v :: r => by
    rw [secsL, List.length_append, secsL_length r, List.length_cons]
    simp only [List.length_cons, List.length_nil]
    omega
set_option maxHeartbeats 4000000 in
theorem secsL_any {A : Option Addr} {c : Nat} (l : List St) (w : World) (h : Rd w A (cellsT l)) (hb : l.length * 24 ≤ 140737488351232) :
    Calls Tryz.prog 56 #[.slice A l.length c] w (Nums w (secsL l)) := by
  obtain ⟨i0, hi0, hz0, hz1, hz2⟩ := info_parts Tryz.infoI
  go_enter Tryz.func56, Tryz.ntmps56
  go_wp2_with fail
  go_loopw [3, 8] (fun v3 v8 wr => ∃ (i : Nat) (L : List Int) (B : Option Addr) (d : Nat), i ≤ l.length ∧ v8 = .int .i64 (i : Nat) ∧ v3 = .slice B L.length d ∧ L = secsL (l.take i) ∧
      wr.ownsRow w.heap.size 3 1 (.slice B L.length d) L.length (L.map (Value.int .i64)) ∧ Fr (fun _ => False) w wr)
    (fun _ i _ => l.length - (intOf i).toNat)
  case atStart => exact ⟨0, [], none, 0, Nat.zero_le _, rfl, rfl, rfl, World.ownsRow_nil _ _ _ _, Fr.refl _ _⟩
  case round =>
    obtain ⟨i, L, B, d, hi, rfl, rfl, hL, hown, F⟩ := hrel
    have hLl : L.length = i * 1 := by rw [hL, secsL_length, List.length_take]; omega
    by_cases hlp : i < l.length
    · obtain ⟨ga, oa, ha, q0, q1, q2⟩ := rd_st (h.fr F fun _ _ => id) hlp
      have hts : secsL (l.take (i + 1)) = L ++ [l[i].sec] := by
        rw [List.take_succ_eq_append_getElem hlp, secsL_append, ← hL]
        simp [secsL]
      have HTS := Lib.hid hts
      have hLn : (L.length + 1) * 8 ≤ 140737488355328 := by omega
      clear hts hL hLl
      generalize l[i] = v at *
      have hlo := World.ownsRow.lt hown
      rw [ha]
      have HA := Lib.hid ha
      clear ha
      go_wp2_with (at_builtin; refine wpList_append_wide _ rfl (.tmp 12) (.tmp 15) 25 rfl w.heap.size 3 i0 _ 1 8 Tryz.underlying25 hi0 hz0 hz1 hz2 rfl (by decide) (.slice B L.length d) L.length (L.map (Value.int .i64)) rfl ((hown.alloc _).alloc _) (some ⟨wr.heap.size + 1, 0, none⟩) 1 1 [.int .i64 v.sec] rfl rfl (lit_rd_at (by simp) _ _) (by simp [Value.oneCell']) (by unfold maxLen; omega) (by omega) (Nat.le_trans F.size (by simp; omega)) ?_; intro v6 w6 hown6 hg6 hat6; obtain ⟨A6, c6, rfl, _, _, _, _⟩ := wide_form hown6)
      have F6 := ((F.alloc (.cells #[.int .i64 v.sec, .int .i64 v.inn, .int .i64 v.out] 45)).alloc (.cells #[.int .i64 v.sec] 3)).grown hg6 fun j hj => .inr (hlo j hj).1
      clear hg6 hat6 hlo q0 q1 q2
      go_wp2_with fail
      go_roundw
      case rel => exact ⟨i + 1, L ++ [v.sec], A6, c6, by omega, by go_num, by rw [List.length_append]; rfl, HTS.out.symm, by rw [List.length_append, List.map_append]; exact hown6, F6⟩
      case measure => simp [intOf]; omega
    · obtain rfl : i = l.length := by omega
      rw [List.take_length] at hL
      subst hL
      go_wp2_with fail
      go_ret
      exact ⟨B, d, rfl, hown, F⟩
theorem secsL_map : ∀ (p : List St), secsL p = p.map St.sec
  | [] => rfl
  | x :: r => by rw [secsL, List.map_cons, secsL_map r]; rfl
end Go.Proofs.YtkkohdmneognlaaGreatDoor
/- The document's own Approach, at. -/
namespace Go.Proofs.YtkkohdmneognlaaGreatDoor
open Go.RowKit

theorem not_sec {n : Nat} {s : Int} (h : isSecB n s = false) : s < 0 ∨ ∃ k : Nat, s = k ∧ n ≤ k := by
  unfold isSecB at h
  simp at h
  by_cases h0 : s < 0
  · exact .inl h0
  · exact .inr ⟨s.toNat, by omega, by omega⟩

set_option maxHeartbeats 4000000 in
theorem rapproach_any (C : Cm) (k : Int) (w : World) (h : C.Ok w) : Calls Tryz.prog 15 #[C.val, .int .i64 k] w fun e w' => e = .returned (.int .i64 (apR C k)) ∧ Fr (fun _ => False) w w' := by
  have F := (Fr.refl (fun _ => False) w).alloc (.cells C.arr 30)
  have isC := Is.new w 30 C.arr
  have hrt := h.rts.fr F fun _ _ => id
  have hsg := h.sigs.fr F fun _ _ => id
  unfold apR Cm.val
  unfold Cm.arr at F isC hrt hsg ⊢
  cases hs : isSecB C.rs.length k
  · rw [if_neg (by decide)]
    rcases not_sec hs with hn | ⟨j, rfl, hj⟩
    · have d0 : decide (k < 0) = true := by simpa using hn
      clear hs hrt hsg isC
      go_enter Tryz.func15, Tryz.ntmps15
      go_upto_region 1 with (fail)
      go_quiet (fail)
      go_wp2_with fail
      go_ret
      exact ⟨rfl, F.drewN _⟩
    · have d0 : decide ((j : Int) < 0) = false := by rw [decide_eq_false_iff_not]; omega
      have d1 : decide (C.rs.length ≤ j) = true := by simpa using hj
      have d2 : decide ((C.rs.length : Int) ≤ (j : Int)) = true := by rw [decide_eq_true_eq]; omega
      have p4 := isC.cell 4
      simp only [List.getElem?_toArray, List.getElem?_cons_zero, List.getElem?_cons_succ] at p4
      clear hs hrt hsg isC
      go_enter Tryz.func15, Tryz.ntmps15
      go_upto_region 1 with (fail)
      go_quiet (fail)
      go_wp2_with fail
      go_ret
      exact ⟨rfl, F.drewN _⟩
  · rw [if_pos rfl]
    obtain ⟨j, rfl, hj⟩ := isSecB_true hs
    rw [Int.toNat_natCast, rs_at hj]
    obtain ⟨g, o, hA, q0, _, _, _, _, _⟩ := rd_ro hrt hj
    generalize C.rs[j].entry = en at *
    have d0 : decide ((j : Int) < 0) = false := by rw [decide_eq_false_iff_not]; omega
    have d1 : decide (C.rs.length ≤ j) = false := by rw [decide_eq_false_iff_not]; omega
    have d2 : decide ((C.rs.length : Int) ≤ (j : Int)) = false := by rw [decide_eq_false_iff_not]; omega
    have p4 := isC.cell 4
    have p2 := isC.cell 2
    simp only [List.getElem?_toArray, List.getElem?_cons_zero, List.getElem?_cons_succ] at p4 p2
    have i1 : (0 : Int) ≤ (j : Int) := by omega
    have i2 : (j : Int) < (C.rs.length : Int) := by omega
    rw [hA] at p4 p2 q0 F hsg ⊢
    clear hs hA hrt isC
    unfold apM
    cases he : isSecB C.sg.length en
    · rw [if_neg (by decide)]
      rcases not_sec he with hn | ⟨e, rfl, hle⟩
      · have d3 : decide (en < 0) = true := by simpa using hn
        clear he hsg
        go_enter Tryz.func15, Tryz.ntmps15
        go_upto_region 1 with (fail)
        go_quiet (fail)
        go_wp2_with fail
        go_ret
        exact ⟨rfl, F.drewN _⟩
      · have d3 : decide ((e : Int) < 0) = false := by rw [decide_eq_false_iff_not]; omega
        have d4 : decide (C.sg.length ≤ e) = true := by simpa using hle
        have d5 : decide ((C.sg.length : Int) ≤ (e : Int)) = true := by rw [decide_eq_true_eq]; omega
        clear he hsg
        go_enter Tryz.func15, Tryz.ntmps15
        go_upto_region 1 with (fail)
        go_quiet (fail)
        go_wp2_with fail
        go_ret
        exact ⟨rfl, F.drewN _⟩
    · rw [if_pos rfl]
      obtain ⟨e, rfl, hle⟩ := isSecB_true he
      rw [sgAt_nat hle]
      obtain ⟨g2, o2, hA3, s0, _⟩ := rd_sg hsg hle
      generalize C.sg[e].sec = sc at *
      have d3 : decide ((e : Int) < 0) = false := by rw [decide_eq_false_iff_not]; omega
      have d4 : decide (C.sg.length ≤ e) = false := by rw [decide_eq_false_iff_not]; omega
      have d5 : decide ((C.sg.length : Int) ≤ (e : Int)) = false := by rw [decide_eq_false_iff_not]; omega
      have i3 : (0 : Int) ≤ (e : Int) := by omega
      have i4 : (e : Int) < (C.sg.length : Int) := by omega
      rw [hA3] at p2 p4 q0 s0 F ⊢
      clear he hA3 hsg
      go_enter Tryz.func15, Tryz.ntmps15
      go_upto_region 1 with (fail)
      go_quiet (fail)
      go_upto_region 3 with (fail)
      go_quiet (fail)
      go_wp2_with fail
      go_ret
      exact ⟨rfl, (F.drewN _).drewN _⟩

/-- a signal of these at another place than that -/
def atL (s e b : Int) : List Sg → Int → Bool
  | [], _ => false
  | x :: r, i => (decide (x.sec = s) && (decide (x.fin = e) && !decide (i = b))) || atL s e b r (i + 1)
set_option maxHeartbeats 4000000 in
theorem rat_any (C : Cm) (s e b : Int) (w : World) (h : C.Ok w) : Calls Tryz.prog 95 #[C.val, .int .i64 s, .int .i64 e, .int .i64 b] w fun x w' => x = .returned (.bool (atL s e b C.sg 0)) ∧ Fr (fun _ => False) w w' := by
  have F := (Fr.refl (fun _ => False) w).alloc (.cells C.arr 30)
  have isC := Is.new w 30 C.arr
  have b3 := h.b3
  generalize hT : atL s e b C.sg 0 = T
  have HT := Lib.hid hT
  clear hT
  unfold Cm.val
  unfold Cm.arr at F isC ⊢
  have p2 := isC.cell 2
  simp only [List.getElem?_toArray, List.getElem?_cons_zero, List.getElem?_cons_succ] at p2
  go_enter Tryz.func95, Tryz.ntmps95
  go_wp2_with fail
  clear p2 isC
  go_loopg [9, 10, 14] C.sg.length (fun gi _ _ v14 wr => ∃ k : Nat, k ≤ C.sg.length ∧ gi = C.sg.length - k ∧ v14 = .int .i64 (k : Nat) ∧ atL s e b (C.sg.drop k) (k : Nat) = T ∧ Fr (fun _ => False) w wr)
  case atStart => exact ⟨0, Nat.zero_le _, rfl, rfl, HT.out, F⟩
  case round =>
    clear HT F
    obtain ⟨k, hk, rfl, rfl, hT, f⟩ := hrel
    by_cases hlt : k < C.sg.length
    · obtain ⟨g, o, hA, q0, q1⟩ := rd_sg (h.sigs.fr f fun _ _ => id) hlt
      rw [List.drop_eq_getElem_cons hlt, atL] at hT
      generalize hrest : atL s e b (C.sg.drop (k + 1)) ((k : Nat) + 1 : Int) = rest at hT
      have HR := Lib.hid hrest
      clear hrest
      generalize C.sg[k] = y at *
      obtain ⟨ys, ye⟩ := y
      dsimp only at *
      have HA := Lib.hid hA
      have f1 := f.alloc (.cells #[.int .i64 ys, .int .i64 ye] 56)
      rw [hA]
      clear hA
      have i1 : (0 : Int) ≤ (k : Int) := by omega
      have i2 : (k : Int) < (C.sg.length : Int) := by omega
      have hbr : ((ys == s) = true ∧ (ye == e) = true ∧ ((k : Int) != b) = true ∧ T = true) ∨ (((ys == s) = false ∨ ((ys == s) = true ∧ (ye == e) = false) ∨ ((ys == s) = true ∧ (ye == e) = true ∧ ((k : Int) != b) = false)) ∧ rest = T) := by
        rw [← hT]
        by_cases c1 : ys = s <;> by_cases c2 : ye = e <;> by_cases c3 : (k : Int) = b <;> simp [c1, c2, c3]
      have HT := Lib.hid hT
      clear hT
      rcases hbr with ⟨e1, e2, e3, rfl⟩ | ⟨hbr, hr⟩
      · go_wp2_with fail
        go_ret
        exact ⟨rfl, f1⟩
      · have HR2 := Lib.hid (HR.out.trans hr)
        clear hr HR HT
        rcases hbr with e1 | ⟨e1, e2⟩ | ⟨e1, e2, e3⟩
        all_goals
          go_wp2_with fail
          rw [← HA.out]
          go_roundg (C.sg.length - (k + 1))
          case measure => omega
          case rel => exact ⟨k + 1, by omega, rfl, by go_num, by rw [← HR2.out]; rfl, f1⟩
    · rw [List.drop_eq_nil_of_le (by omega), atL] at hT
      subst hT
      go_wp2_with fail
      go_ret
      exact ⟨rfl, f⟩
end Go.Proofs.YtkkohdmneognlaaGreatDoor

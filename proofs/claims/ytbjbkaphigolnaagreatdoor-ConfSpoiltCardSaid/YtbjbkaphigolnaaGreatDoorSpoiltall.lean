import Derived.Test.YtbjbkaphigolnaaGreatDoorMas
import Derived.Deep.CutRange
import Derived.Deep.RegionHeld3
import Derived.Test.YtbjbkaphigolnaaGreatDoorCards
import Derived.Test.YtbjbkaphigolnaaGreatDoorTie
/- The closure of ConfSpoilt that writes one route over: a configuration of new memory. -/
namespace Go.Proofs.YtbjbkaphigolnaaGreatDoor
open Go.RowKit

theorem withR_val (C : Cm) (g c n : Nat) (x : Ro) : (withR C g c n x).val = .agg #[.slice C.A1 C.l.length C.c1, .slice C.A2 C.js.length C.c2, .slice C.A3 C.sg.length C.c3, .slice C.A4 C.cr.length C.c4, .slice (some ⟨g, 0, none⟩) C.rs.length c, .int .i64 C.tm.age, .int .i64 C.tm.brake, .int .i64 C.tm.hold, .int .i64 C.tm.budget] := by
  unfold Cm.val Cm.arr withR
  dsimp only
  rw [List.length_set]
/-- what it answers -/
def WithE (C : Cm) (n : Nat) (x : Ro) (w : World) (e : Ending) (w' : World) : Prop := ∃ g c, e = .returned (withR C g c n x).val ∧ (withR C g c n x).Ok w' ∧ Fr (fun _ => False) w w'
set_option maxRecDepth 100000 in
set_option maxHeartbeats 8000000 in
theorem with_any {C : Cm} {x : Ro} {bc bn n : Nat} (w : World) (h : C.Ok w) (hx : x.Ok w) (hc : Is w bc 30 C.arr) (hn : Is w bn 3 #[.int .i64 (n : Int)]) (hnl : n < C.rs.length) :
    Calls Tryz.prog 34 #[x.val, .pointer (some ⟨bc, 0, none⟩), .pointer (some ⟨bn, 0, none⟩)] w (WithE C n x w) := by
  have hl12 := h.b5
  have HOK := Lib.hid (show C.Ok w ∧ x.Ok w from ⟨h, hx⟩)
  have f1 := ((Fr.refl (fun _ => False) w).alloc (.cells x.cells.toArray 43)).alloc (.cells #[.slice none 0 0, .slice none 0 0, .slice none 0 0, .slice none 0 0, .slice none 0 0, .int .i64 0, .int .i64 0, .int .i64 0, .int .i64 0] 30)
  have ix := (Is.new w 43 x.cells.toArray).alloc (.cells #[.slice none 0 0, .slice none 0 0, .slice none 0 0, .slice none 0 0, .slice none 0 0, .int .i64 0, .int .i64 0, .int .i64 0, .int .i64 0] 30)
  have id4 := Is.new (w.alloc (.cells x.cells.toArray 43)) 30 #[.slice none 0 0, .slice none 0 0, .slice none 0 0, .slice none 0 0, .slice none 0 0, .int .i64 0, .int .i64 0, .int .i64 0, .int .i64 0]
  have h5 := (h.fr f1)
  have hx5 := (hx.fr f1)
  unfold Ro.val
  unfold Ro.cells at *
  go_enter Tryz.func34, Tryz.ntmps34
  go_upto_region 1 with (fail)
  have hc1 := hc.fr f1 id
  have hn1 := hn.fr f1 id
  have hcl := hc.lt
  have hnl2 := hn.lt
  simp only [World.size_alloc] at id4
  have hzz : w.heap.size + 1 < ((w.alloc (.cells _ 43)).alloc (.cells #[.slice none 0 0, .slice none 0 0, .slice none 0 0, .slice none 0 0, .slice none 0 0, .int .i64 0, .int .i64 0, .int .i64 0, .int .i64 0] 30)).heap.size := id4.lt
  generalize (w.alloc _).alloc _ = w1 at *
  generalize hb3 : w.heap.size = b3 at *
  have HB3 := Lib.hid hb3
  clear hb3
  clear hc hn h hx
  unfold Cm.arr at hc1
  obtain ⟨p0, p1, p2, p3, p4, p5, p6, p7, p8⟩ := conf_cells hc1
  have f2 := (Fr.refl (fun _ => False) w1).alloc (.cells #[.slice C.A1 C.l.length C.c1, .slice C.A2 C.js.length C.c2, .slice C.A3 C.sg.length C.c3, .slice C.A4 C.cr.length C.c4, .slice C.A5 C.rs.length C.c5, .int .i64 C.tm.age, .int .i64 C.tm.brake, .int .i64 C.tm.hold, .int .i64 C.tm.budget] 30)
  have i5 := Is.new w1 30 #[.slice C.A1 C.l.length C.c1, .slice C.A2 C.js.length C.c2, .slice C.A3 C.sg.length C.c3, .slice C.A4 C.cr.length C.c4, .slice C.A5 C.rs.length C.c5, .int .i64 C.tm.age, .int .i64 C.tm.brake, .int .i64 C.tm.hold, .int .i64 C.tm.budget]
  go_upto_region 2 with (fail)
  clear p0 p1 p2 p3 p4 p5 p6 p7 p8
  have ix2 := ix.fr f2 id
  have id2 := id4.fr f2 id
  have hc2 := hc1.fr f2 id
  have hn2 := hn1.fr f2 id
  have h2 := h5.fr f2
  have hx2 := hx5.fr f2
  have F2 := fr_nil f1 f2
  have hz5 := i5.lt
  generalize w1.alloc _ = w2 at *
  generalize w1.heap.size = b5 at *
  clear f1 f2 ix id4 hc1 hn1 h5 hx5
  obtain ⟨i0, hi0, hz0, hz1, hz2⟩ := info_parts Tryz.infoRo
  have c4 := (hc2.alloc (.cells #[] 43)).cell 4
  simp only [List.getElem?_toArray, List.getElem?_cons_zero, List.getElem?_cons_succ] at c4
  have F6 := F2.alloc (.cells #[] 43)
  have hrd := h2.rts.fr ((Fr.refl (fun _ => False) w2).alloc (.cells #[] 43)) fun _ _ => id
  go_wp2_with (at_builtin; refine wpList_append_wide _ rfl _ _ 26 rfl w2.heap.size 43 i0 _ 6 96 Tryz.underlying26 hi0 hz0 hz1 hz2 rfl (by decide) _ 0 [] rfl (own_empty w2 43 6) C.A5 C.c5 C.rs.length (cellsR C.rs) (cellsR_length _) rfl hrd (cellsR_one _) (by unfold maxLen; omega) (by omega) (by simp) ?_)
  intro v' w6 hown hg hat
  obtain ⟨A', c', rfl, hc1, hcm, hA', _⟩ := wide_form hown
  obtain ⟨g', rfl, hg'⟩ := hA' (by omega)
  have hgl : w2.heap.size ≤ g' := (World.ownsRow.lt hown g' rfl).1
  have f6 : Fr (fun k => k = w2.heap.size) (w2.alloc (.cells #[] 43)) w6 := (Fr.refl _ _).grown hg fun k hk => .inl (by injection hk with hk; exact hk.symm)
  have hz2 : w2.heap.size ≠ b5 := by omega
  have hlt := F2.size
  have F7 : Fr (fun _ => False) w w6 := F6.grown hg fun k hk => .inr (by have e : w2.heap.size = k := Option.some.inj hk; omega)
  have i56 := (i5.alloc (.cells #[] 43)).fr f6 (by omega)
  have ix6 := (ix2.alloc (.cells #[] 43)).fr f6 (by have := ix2.lt; omega)
  have id6 := (id2.alloc (.cells #[] 43)).fr f6 (by have := id2.lt; omega)
  have hn6 := (hn2.alloc (.cells #[] 43)).fr f6 (by have := hn2.lt; omega)
  have f26 : Fr (fun _ => False) w2 w6 := ((Fr.refl (fun _ => False) w2).alloc (.cells #[] 43)).grown hg fun k hk => .inr (by have e : w2.heap.size = k := Option.some.inj hk; omega)
  have h6 := h2.fr f26
  have hx6 := hx2.fr f26
  obtain ⟨cur, hcur, hcs, hct⟩ : ∃ cur, Is w6 g' 43 cur ∧ cur.size = c' * 6 ∧ cur.toList.take (C.rs.length * 6) = cellsR C.rs := by
    rcases hown.2 with ⟨hv, _⟩ | ⟨g, cap, cur, hv, _, hb, _, _, hs, ht⟩
    · cases hv
    · injection hv with hv _ hv3
      injection hv with hv
      injection hv with hv
      subst hv hv3
      exact ⟨cur, hb, hs, ht⟩
  have e5 := i56.cell 4
  have ez5 := i56.frozen 4
  simp only [List.getElem?_toArray, List.getElem?_cons_zero, List.getElem?_cons_succ] at e5
  clear hown hg hat f6 F6 c4 hrd i5 ix2 id2 hn2 f26 h2 hx2 hc2 F2
  go_upto_region 3 with (fail)
  have hbg : b5 ≠ g' := by omega
  have h3g : b3 ≠ g' := by have := HB3.out; omega
  have h4g : b3 + 1 ≠ g' := by have := HB3.out; omega
  have hng : bn ≠ g' := by have := HB3.out; omega
  have i57 := i56.set 4 (.slice (some ⟨g', 0, none⟩) C.rs.length c')
  have f67 : Fr (fun k => k = b5) w6 (w6.setCell ⟨b5, 4, none⟩ (.slice (some ⟨g', 0, none⟩) C.rs.length c')) := (Fr.refl (fun k => k = b5) w6).setCell (p := ⟨b5, 4, none⟩) (.inl rfl) _
  have F8 : Fr (fun _ => False) w (w6.setCell ⟨b5, 4, none⟩ (.slice (some ⟨g', 0, none⟩) C.rs.length c')) := F7.setCell (p := ⟨b5, 4, none⟩) (.inr (by show w.heap.size ≤ b5; have := HB3.out; omega)) _
  have ix7 := ix6.fr f67 (by have := ix6.lt; omega)
  have id7 := id6.fr f67 (by omega)
  have hn7 := hn6.fr f67 (by have := HB3.out; omega)
  have in7 := hcur.fr f67 (fun e => hbg e.symm)
  simp only [List.setIfInBounds_toArray, List.set_cons_succ, List.set_cons_zero] at i57
  generalize w6.setCell ⟨b5, 4, none⟩ (.slice (some ⟨g', 0, none⟩) C.rs.length c') = w7 at *
  clear i56 f67 ix6 id6 hn6 hcur e5 ez5 F7
  obtain ⟨y, hy⟩ : ∃ y, C.rs[n] = y := ⟨_, rfl⟩
  have hcell : ∀ k v, k < 6 → y.cells[k]? = some v → w7.cell? ⟨g', n * 6 + k, none⟩ = some v := fun k v hk hv => by
    rw [in7.cell, ← Array.getElem?_toList]
    have e1 : (cellsR C.rs)[n * 6 + k]? = some v := by rw [cellsR_get hnl hk, hy]; exact hv
    rw [← hct, List.getElem?_take, if_pos (by omega)] at e1
    exact e1
  have e0 := hcell 0 _ (by decide) rfl
  have e1 := hcell 1 _ (by decide) rfl
  have e2 := hcell 2 _ (by decide) rfl
  have e3 := hcell 3 _ (by decide) rfl
  have e4 := hcell 4 _ (by decide) rfl
  have e5 := hcell 5 _ (by decide) rfl
  rw [Nat.add_zero] at e0
  have ez := in7.frozen
  have b4 := i57.cell 4
  have t0 := ix7.cell 0
  have t1 := ix7.cell 1
  have t2 := ix7.cell 2
  have t3 := ix7.cell 3
  have t4 := ix7.cell 4
  have t5 := ix7.cell 5
  have n0 := hn7.cell 0
  simp only [List.getElem?_toArray, List.getElem?_cons_zero, List.getElem?_cons_succ] at b4 t0 t1 t2 t3 t4 t5 n0
  have j1 : (0 : Int) ≤ (n : Int) := by omega
  have j2 : (n : Int) < (C.rs.length : Int) := by omega
  clear hy hcell
  go_upto_region 4 with (fail)
  clear e0 e1 e2 e3 e4 e5 ez b4 t0 t1 t2 t3 t4 t5 n0
  have in8 := Is.setCells x.cells (n * 6) w7 cur in7
  have F9 : Fr (fun _ => False) w _ := F8.setCells x.cells (n * 6) (b := g') (.inr (by have := HB3.out; omega))
  have fs8 := (Fr.refl (fun k => k = g') w7).setCells x.cells (n * 6) (b := g') (.inl rfl)
  have i58 := i57.fr fs8 hbg
  have id8 := id7.fr fs8 h4g
  have hrd8 := rd_splice in8 hct (by omega) hnl
  simp only [Ro.cells, World.setCells] at F9 i58 id8 hrd8
  have f6c := F9
  clear in8 fs8 i57 id7 in7 F8 ix7 hn7
  have h0 : Hid (C.Ok w ∧ x.Ok w) := HOK
  generalize ((((((w7.setCell ⟨g', n * 6, none⟩ (.int .i64 x.entry)).setCell ⟨g', n * 6 + 1, none⟩ (.int .i64 x.exit)).setCell ⟨g', n * 6 + 2, none⟩ (.slice x.a1 x.path.length x.c1)).setCell ⟨g', n * 6 + 3, none⟩ (.slice x.a2 x.flank.length x.c2)).setCell ⟨g', n * 6 + 4, none⟩ (.slice x.a3 x.over.length x.c3)).setCell ⟨g', n * 6 + 5, none⟩ (.bool x.shunt)) = w9 at *
  obtain ⟨p0, p1, p2, p3, p4, p5, p6, p7, p8⟩ : w9.cell? ⟨b5, 0, none⟩ = some (.slice C.A1 C.l.length C.c1) ∧ w9.cell? ⟨b5, 1, none⟩ = some (.slice C.A2 C.js.length C.c2) ∧ w9.cell? ⟨b5, 2, none⟩ = some (.slice C.A3 C.sg.length C.c3) ∧ w9.cell? ⟨b5, 3, none⟩ = some (.slice C.A4 C.cr.length C.c4) ∧ w9.cell? ⟨b5, 4, none⟩ = some (.slice (some ⟨g', 0, none⟩) C.rs.length c') ∧ w9.cell? ⟨b5, 5, none⟩ = some (.int .i64 C.tm.age) ∧ w9.cell? ⟨b5, 6, none⟩ = some (.int .i64 C.tm.brake) ∧ w9.cell? ⟨b5, 7, none⟩ = some (.int .i64 C.tm.hold) ∧ w9.cell? ⟨b5, 8, none⟩ = some (.int .i64 C.tm.budget) :=
    ⟨i58.cell 0, i58.cell 1, i58.cell 2, i58.cell 3, i58.cell 4, i58.cell 5, i58.cell 6, i58.cell 7, i58.cell 8⟩
  obtain ⟨q0, q1, q2, q3, q4, q5, q6, q7, q8⟩ : w9.cell? ⟨b3 + 1, 0, none⟩ = some (.slice none 0 0) ∧ w9.cell? ⟨b3 + 1, 1, none⟩ = some (.slice none 0 0) ∧ w9.cell? ⟨b3 + 1, 2, none⟩ = some (.slice none 0 0) ∧ w9.cell? ⟨b3 + 1, 3, none⟩ = some (.slice none 0 0) ∧ w9.cell? ⟨b3 + 1, 4, none⟩ = some (.slice none 0 0) ∧ w9.cell? ⟨b3 + 1, 5, none⟩ = some (.int .i64 0) ∧ w9.cell? ⟨b3 + 1, 6, none⟩ = some (.int .i64 0) ∧ w9.cell? ⟨b3 + 1, 7, none⟩ = some (.int .i64 0) ∧ w9.cell? ⟨b3 + 1, 8, none⟩ = some (.int .i64 0) :=
    ⟨id8.cell 0, id8.cell 1, id8.cell 2, id8.cell 3, id8.cell 4, id8.cell 5, id8.cell 6, id8.cell 7, id8.cell 8⟩
  have qz := id8.frozen
  go_wp2_with fail
  clear p0 p1 p2 p3 p4 p5 p6 p7 p8 q0 q1 q2 q3 q4 q5 q6 q7 q8 qz
  have idD := Is.setCells [.slice C.A1 C.l.length C.c1, .slice C.A2 C.js.length C.c2, .slice C.A3 C.sg.length C.c3, .slice C.A4 C.cr.length C.c4, .slice (some ⟨g', 0, none⟩) C.rs.length c', .int .i64 C.tm.age, .int .i64 C.tm.brake, .int .i64 C.tm.hold, .int .i64 C.tm.budget] 0 w9 _ id8
  have FD : Fr (fun _ => False) w _ := F9.setCells [.slice C.A1 C.l.length C.c1, .slice C.A2 C.js.length C.c2, .slice C.A3 C.sg.length C.c3, .slice C.A4 C.cr.length C.c4, .slice (some ⟨g', 0, none⟩) C.rs.length c', .int .i64 C.tm.age, .int .i64 C.tm.brake, .int .i64 C.tm.hold, .int .i64 C.tm.budget] 0 (b := b3 + 1) (.inr (by have := HB3.out; omega))
  have fD := (Fr.refl (fun k => k = b3 + 1) w9).setCells [.slice C.A1 C.l.length C.c1, .slice C.A2 C.js.length C.c2, .slice C.A3 C.sg.length C.c3, .slice C.A4 C.cr.length C.c4, .slice (some ⟨g', 0, none⟩) C.rs.length c', .int .i64 C.tm.age, .int .i64 C.tm.brake, .int .i64 C.tm.hold, .int .i64 C.tm.budget] 0 (b := b3 + 1) (.inl rfl)
  have hrdD := hrd8.fr fD fun k hk e => h4g (by have e2 : g' = k := Option.some.inj hk; omega)
  have hWD := withR_ok (h0.out.1.fr FD) (h0.out.2.fr FD) hrdD hc1 (by unfold maxLen at hcm; omega)
  simp only [splice, List.setIfInBounds_toArray, List.set_cons_succ, List.set_cons_zero] at idD
  simp only [World.setCells, Nat.zero_add, Nat.reduceAdd] at idD FD hWD
  generalize (((((((((w9.setCell ⟨b3 + 1, 0, none⟩ (.slice C.A1 C.l.length C.c1)).setCell ⟨b3 + 1, 1, none⟩ (.slice C.A2 C.js.length C.c2)).setCell ⟨b3 + 1, 2, none⟩ (.slice C.A3 C.sg.length C.c3)).setCell ⟨b3 + 1, 3, none⟩ (.slice C.A4 C.cr.length C.c4)).setCell ⟨b3 + 1, 4, none⟩ (.slice (some ⟨g', 0, none⟩) C.rs.length c')).setCell ⟨b3 + 1, 5, none⟩ (.int .i64 C.tm.age)).setCell ⟨b3 + 1, 6, none⟩ (.int .i64 C.tm.brake)).setCell ⟨b3 + 1, 7, none⟩ (.int .i64 C.tm.hold)).setCell ⟨b3 + 1, 8, none⟩ (.int .i64 C.tm.budget)) = wD at *
  have m0 := idD.cell 0
  have m1 := idD.cell 1
  have m2 := idD.cell 2
  have m3 := idD.cell 3
  have m4 := idD.cell 4
  have m5 := idD.cell 5
  have m6 := idD.cell 6
  have m7 := idD.cell 7
  have m8 := idD.cell 8
  refine bodyPost_ret (v := (withR C g' c' n x).val) ?_ rfl ⟨g', c', rfl, hWD, FD⟩
  rw [withR_val]
  simp [results, Tryz.results34, go_sem, m0, m1, m2, m3, m4, m5, m6, m7, m8]
end Go.Proofs.YtbjbkaphigolnaaGreatDoor
/- A right route is short: its flank, its overlap, its path. -/
namespace Go.Proofs.YtbjbkaphigolnaaGreatDoor
open Go.RowKit

theorem flankE_len (l : List Sec) (js : List Jo) (x : St) (e : Int) (q : List Bool × List Nd) : (flankE l js x e q).2.length ≤ q.2.length + 1 := by
  unfold flankE
  split
  · omega
  · split
    · rw [List.length_append]; simp
    · omega
theorem flankI_len (l : List Sec) (js : List Jo) (x : St) : ∀ (es : List Int) (q : List Bool × List Nd), (flankI l js x es q).2.length ≤ q.2.length + es.length
  | [], q => by simp [flankI]
  | e :: r, q => by
    have a := flankI_len l js x r (flankE l js x e q)
    have b := flankE_len l js x e q
    rw [flankI, List.length_cons]
    omega
theorem endsL_len (l : List Sec) (s : Int) : (endsL (endsOf l s)).length ≤ 4 := by
  unfold endsL endsOf
  rw [List.length_map, List.length_range]
  split
  · have := ends_bd (kindOf l s.toNat)
    omega
  · simp
theorem flankO_len (l : List Sec) (js : List Jo) : ∀ (p : List St) (q : List Bool × List Nd), (flankO l js p q).2.length ≤ q.2.length + 4 * p.length
  | [], q => by simp [flankO]
  | x :: r, q => by
    have a := flankO_len l js r (flankI l js x (endsL (endsOf l x.sec)) q)
    have b := flankI_len l js x (endsL (endsOf l x.sec)) q
    have c := endsL_len l x.sec
    rw [flankO, List.length_cons]
    omega
theorem right_short {l : List Sec} {js : List Jo} {sg : List Sg} {r : Rt} (h : errR l js sg r = 0) : r.flank.length ≤ 32 ∧ r.over.length ≤ 1 ∧ r.path.length ≤ 8 := by
  obtain ⟨h1, h2, h3⟩ := errR_parts h
  have hp : r.path.length ≤ 8 := by
    unfold routeB at h1
    simp only [Bool.and_eq_true, decide_eq_true_eq] at h1
    exact h1.2.2.2.1
  refine ⟨?_, ?_, hp⟩
  · rw [h2]
    unfold flankM
    have := flankO_len l js r.path (barM l.length (apM sg r.entry) r.path, [])
    simp only [List.length_nil] at this
    omega
  · rw [h3]
    unfold overM
    split <;> simp
end Go.Proofs.YtbjbkaphigolnaaGreatDoor
/- The walk of ConfSpoilt: a right station in which a route's flank, its overlap, or the timing is another one is refused, each with its own error. -/
namespace Go.Proofs.YtbjbkaphigolnaaGreatDoor
open Go.RowKit

/-! ### Plain mathematics -/
theorem flank_err {l : List Sec} {js : List Jo} {sg : List Sg} {r : Rt} (h : errR l js sg r = 0) (e : Nd) : errR l js sg { r with flank := r.flank ++ [e] } = 10 := by
  obtain ⟨h1, h2, h3⟩ := errR_parts h
  have hb : routeB l js sg { r with flank := r.flank ++ [e] } = true := by
    unfold routeB at h1 ⊢
    exact h1
  unfold errR
  rw [hb, if_neg (by decide)]
  dsimp only
  rw [if_pos]
  rw [← h2]
  intro k
  have := congrArg List.length k
  rw [List.length_append, List.length_singleton] at this
  omega
theorem over_err {l : List Sec} {js : List Jo} {sg : List Sg} {r : Rt} (h : errR l js sg r = 0) (e : Int) : errR l js sg { r with over := r.over ++ [e] } = 11 := by
  obtain ⟨h1, h2, h3⟩ := errR_parts h
  have hb : routeB l js sg { r with over := r.over ++ [e] } = true := by
    unfold routeB at h1 ⊢
    exact h1
  have ho : overM l js sg { r with over := r.over ++ [e] } = overM l js sg r := rfl
  unfold errR
  rw [hb, ho, if_neg (by decide)]
  dsimp only
  rw [if_neg (by simpa using h2), if_pos]
  rw [← h3]
  intro k
  have := congrArg List.length k
  rw [List.length_append, List.length_singleton] at this
  omega
theorem late_err {c : Cf} (h : checkE c = 0) : checkE { c with tm := { c.tm with hold := c.tm.age + c.tm.brake } } = 12 := by
  obtain ⟨h1, h2, h3, h4, h5, h6⟩ := check_parts h
  unfold checkE
  dsimp only
  rw [h1, h2, h3, if_neg (by decide), if_neg (by decide), if_neg (by decide), if_neg (by simpa using h4), h5, if_neg (by decide), if_pos]
  unfold timeB
  dsimp only
  rw [decide_eq_false (show ¬ c.tm.age + c.tm.brake + 1 ≤ c.tm.age + c.tm.brake by omega)]
  simp
theorem time_bd {c : Cf} (h : checkE c = 0) : 1 ≤ c.tm.age ∧ c.tm.age ≤ 8 ∧ 0 ≤ c.tm.brake ∧ c.tm.brake ≤ 8 := by
  obtain ⟨_, _, _, _, _, h6⟩ := check_parts h
  unfold timeB at h6
  simp only [Bool.and_eq_true, decide_eq_true_eq] at h6
  omega
theorem cellsN_one6 (l : List Nd) : ∀ u ∈ cellsN l, u.oneCell' = true := by
  intro u hu
  obtain ⟨s, _, hs⟩ := List.mem_flatMap.1 hu
  simp at hs
  rcases hs with rfl | rfl <;> rfl

theorem conf_cells6 {w : World} {b : Nat} {v0 v1 v2 v3 v4 v5 v6 v7 v8 : Value} (h : Is w b 30 #[v0, v1, v2, v3, v4, v5, v6, v7, v8]) : w.cell? ⟨b, 0, none⟩ = some v0 ∧ w.cell? ⟨b, 1, none⟩ = some v1 ∧ w.cell? ⟨b, 2, none⟩ = some v2 ∧ w.cell? ⟨b, 3, none⟩ = some v3 ∧ w.cell? ⟨b, 4, none⟩ = some v4 ∧ w.cell? ⟨b, 5, none⟩ = some v5 ∧ w.cell? ⟨b, 6, none⟩ = some v6 ∧ w.cell? ⟨b, 7, none⟩ = some v7 ∧ w.cell? ⟨b, 8, none⟩ = some v8 :=
  ⟨h.cell 0, h.cell 1, h.cell 2, h.cell 3, h.cell 4, h.cell 5, h.cell 6, h.cell 7, h.cell 8⟩
/-! ### The walk -/
set_option maxRecDepth 100000 in
set_option maxHeartbeats 8000000 in
theorem spoilt_any (C : Cm) (r extra : Int) (w : World) (h : C.Ok w) (hR : Rds w) (hP : Pow w) :
    Calls Tryz.prog 7 #[C.val, .int .i64 r, .int .i64 extra] w fun e w' => e = .returned (.bool true) ∧ Fr (fun _ => False) w w' := by
  have f0 := (Fr.refl (fun _ => False) w).alloc (.cells C.arr 30)
  have is0 : Is (w.alloc (.cells C.arr 30)) w.heap.size 30 C.arr := Is.new w _ _
  have KL := lives_any (w.alloc (.cells C.arr 30)) (hR.fr f0) (hP.fr f0)
  have KC := fun W (f : Fr (fun _ => False) w W) => chk_any C W (h.fr f)
  unfold Cm.val at KC ⊢
  unfold Cm.arr at f0 is0 KL KC ⊢
  go_enter Tryz.func7, Tryz.ntmps7
  go_wp2_with fail
  refine KL.mono ?_
  clear KL
  rintro _ w1 ⟨rfl, f1⟩
  have F1 := fr_nil f0 f1
  have is1 := is0.fr f1 id
  clear f0 is0 f1
  obtain ⟨p0, p1, p2, p3, p4, p5, p6, p7, p8⟩ := conf_cells is1
  go_wp2_with fail
  refine (KC _ F1).mono ?_
  rintro _ w2 ⟨rfl, f2⟩
  have F2 := fr_nil F1 f2
  have is2 := is1.fr f2 id
  clear F1 is1 f2 p0 p1 p2 p3 p4 p5 p6 p7 p8 KC
  obtain ⟨p0, p1, p2, p3, p4, p5, p6, p7, p8⟩ := conf_cells is2
  by_cases hc : checkE C.cf = 0
  rotate_left
  · have hb : (checkE C.cf != 0) = true := by simpa using hc
    go_wp2_with fail
    go_ret
    exact ⟨rfl, F2⟩
  have hb : (checkE C.cf != 0) = false := by simpa using hc
  by_cases hl : C.rs.length = 0
  · have hb2 : ((C.rs.length : Int) == 0) = true := by simpa using hl
    go_wp2_with fail
    go_ret
    exact ⟨rfl, F2⟩
  have hb2 : ((C.rs.length : Int) == 0) = false := by simpa using hl
  have hparts := check_parts hc
  obtain ⟨hk1, hk2, hk3, hk4, hk5, hk6⟩ := hparts
  have hk4 : C.rs.length ≤ 12 := by have := hk4; unfold Cm.cf at this; rw [List.length_map] at this; exact this
  obtain ⟨n, hn, hnl⟩ := umod r C.rs.length (by omega) (by omega)
  have HN := Lib.hid hn
  have HC := Lib.hid hc
  clear hn hc hk1 hk2 hk3 hk6
  go_upto_region 6 with (fail)
  simp only [HN.out]
  clear HN
  have is3 := is2.alloc (.cells #[.int .i64 (n : Int)] 3)
  have in3 := Is.new w2 3 #[.int .i64 (n : Int)]
  have F3 := F2.alloc (.cells #[.int .i64 (n : Int)] 3)
  have hzb := is2.lt
  have hz2 := F2.size
  generalize w2.alloc _ = w3 at *
  generalize w2.heap.size = nb at *
  generalize hzz : w.heap.size = zb at *
  have HZ := Lib.hid hzz
  clear hzz
  have h3 := h.fr F3
  obtain ⟨ga, oa, ha, q0, q1, q2, q3, q4, q5⟩ := rd_ro h3.rts hnl
  have hok := (h.each _ (List.getElem_mem hnl))
  have her : errR C.l C.js C.sg C.rs[n].rt = 0 := routesE_zero hk5 _ (List.mem_map_of_mem (List.getElem_mem hnl))
  generalize hx : C.rs[n] = x at *
  have HX := Lib.hid hx
  clear hx p0 p1 p2 p3 p4 p5 p6 p7 p8 is2 F2 hk5 h3
  go_upto_region 7 with (fail)
  have HI3 := Lib.hid is3
  have HN3 := Lib.hid in3
  have HF3 := Lib.hid F3
  have HH := Lib.hid (show C.Ok w ∧ x.Ok w from ⟨h, hok⟩)
  clear F3 h hok hR hP
  rw [ha]
  have HA := Lib.hid ha
  clear ha
  go_cut [9, 10] from 32 (fun v9 v10 wx => ∃ b9 b10, v9 = .pointer (some ⟨b9, 0, none⟩) ∧ v10 = .pointer (some ⟨b10, 0, none⟩) ∧ b9 ≠ b10 ∧ Is wx b9 43 #[.int .i64 x.entry, .int .i64 x.exit, .slice x.a1 x.path.length x.c1, .slice x.a2 x.flank.length x.c2, .slice x.a3 x.over.length x.c3, .bool x.shunt] ∧ Is wx b10 43 #[.int .i64 x.entry, .int .i64 x.exit, .slice x.a1 x.path.length x.c1, .slice x.a2 x.flank.length x.c2, .slice x.a3 x.over.length x.c3, .bool x.shunt] ∧ w3.heap.size ≤ b9 ∧ w3.heap.size ≤ b10 ∧ Fr (fun _ => False) w3 wx)
  case first =>
    have c4 : w3.drew.cell? ⟨zb, 4, none⟩ = some (.slice (some ⟨ga, oa, none⟩) C.rs.length C.c5) := by rw [← HA.out]; exact is3.cell 4
    have n0 : w3.drew.cell? ⟨nb, 0, none⟩ = some (.int .i64 (n : Int)) := in3.cell 0
    have j1 : (0 : Int) ≤ (n : Int) := by omega
    have j2 : (n : Int) < (C.rs.length : Int) := by omega
    have hgl : ga < w3.drew.heap.size := World.block_lt_of_cell? _ _ q0
    have hzl : zb < w3.drew.heap.size := is3.lt
    have hnl3 : nb < w3.drew.heap.size := in3.lt
    have HK : Hid (∀ W, Fr (fun q => w3.heap.size ≤ q) w3 W → W.cell? ⟨zb, 4, none⟩ = some (.slice (some ⟨ga, oa, none⟩) C.rs.length C.c5) ∧ W.cell? ⟨nb, 0, none⟩ = some (.int .i64 (n : Int)) ∧ W.cell? ⟨ga, oa + n * 6, none⟩ = some (.int .i64 x.entry) ∧ W.cell? ⟨ga, oa + n * 6 + 1, none⟩ = some (.int .i64 x.exit) ∧ W.cell? ⟨ga, oa + n * 6 + 2, none⟩ = some (.slice x.a1 x.path.length x.c1) ∧ W.cell? ⟨ga, oa + n * 6 + 3, none⟩ = some (.slice x.a2 x.flank.length x.c2) ∧ W.cell? ⟨ga, oa + n * 6 + 4, none⟩ = some (.slice x.a3 x.over.length x.c3) ∧ W.cell? ⟨ga, oa + n * 6 + 5, none⟩ = some (.bool x.shunt)) := Lib.hid fun W f => ⟨(f.cell (p := ⟨zb, 4, none⟩) hzl (by show ¬ w3.heap.size ≤ zb; have : zb < w3.heap.size := hzl; omega)).trans c4, (f.cell (p := ⟨nb, 0, none⟩) hnl3 (by show ¬ w3.heap.size ≤ nb; have : nb < w3.heap.size := hnl3; omega)).trans n0, (f.cell (p := ⟨ga, oa + n * 6, none⟩) hgl (by show ¬ w3.heap.size ≤ ga; have : ga < w3.heap.size := hgl; omega)).trans q0, (f.cell (p := ⟨ga, oa + n * 6 + 1, none⟩) hgl (by show ¬ w3.heap.size ≤ ga; have : ga < w3.heap.size := hgl; omega)).trans q1, (f.cell (p := ⟨ga, oa + n * 6 + 2, none⟩) hgl (by show ¬ w3.heap.size ≤ ga; have : ga < w3.heap.size := hgl; omega)).trans q2, (f.cell (p := ⟨ga, oa + n * 6 + 3, none⟩) hgl (by show ¬ w3.heap.size ≤ ga; have : ga < w3.heap.size := hgl; omega)).trans q3, (f.cell (p := ⟨ga, oa + n * 6 + 4, none⟩) hgl (by show ¬ w3.heap.size ≤ ga; have : ga < w3.heap.size := hgl; omega)).trans q4, (f.cell (p := ⟨ga, oa + n * 6 + 5, none⟩) hgl (by show ¬ w3.heap.size ≤ ga; have : ga < w3.heap.size := hgl; omega)).trans q5⟩
    clear c4 n0 q0 q1 q2 q3 q4 q5
    go_region_held3 (fun W => W.cell? ⟨zb, 4, none⟩ = some (.slice (some ⟨ga, oa, none⟩) C.rs.length C.c5) ∧ W.cell? ⟨nb, 0, none⟩ = some (.int .i64 (n : Int)) ∧ W.cell? ⟨ga, oa + n * 6, none⟩ = some (.int .i64 x.entry) ∧ W.cell? ⟨ga, oa + n * 6 + 1, none⟩ = some (.int .i64 x.exit) ∧ W.cell? ⟨ga, oa + n * 6 + 2, none⟩ = some (.slice x.a1 x.path.length x.c1) ∧ W.cell? ⟨ga, oa + n * 6 + 3, none⟩ = some (.slice x.a2 x.flank.length x.c2) ∧ W.cell? ⟨ga, oa + n * 6 + 4, none⟩ = some (.slice x.a3 x.over.length x.c3) ∧ W.cell? ⟨ga, oa + n * 6 + 5, none⟩ = some (.bool x.shunt)) (first | exact HK.out _ ((Fr.refl _ w3).drew) | exact HK.out _ (((Fr.refl _ w3).alloc _).drew) | exact HK.out _ ((((Fr.refl _ w3).alloc _).alloc _).drew)) (fail)
    all_goals
      have k1 := (Is.new w3 43 #[.int .i64 x.entry, .int .i64 x.exit, .slice x.a1 x.path.length x.c1, .slice x.a2 x.flank.length x.c2, .slice x.a3 x.over.length x.c3, .bool x.shunt]).alloc (.cells #[.int .i64 x.entry, .int .i64 x.exit, .slice x.a1 x.path.length x.c1, .slice x.a2 x.flank.length x.c2, .slice x.a3 x.over.length x.c3, .bool x.shunt] 43)
      have k2 := Is.new (w3.alloc (.cells #[.int .i64 x.entry, .int .i64 x.exit, .slice x.a1 x.path.length x.c1, .slice x.a2 x.flank.length x.c2, .slice x.a3 x.over.length x.c3, .bool x.shunt] 43)) 43 #[.int .i64 x.entry, .int .i64 x.exit, .slice x.a1 x.path.length x.c1, .slice x.a2 x.flank.length x.c2, .slice x.a3 x.over.length x.c3, .bool x.shunt]
      have k3 := (((Fr.refl (fun _ => False) w3).alloc (.cells #[.int .i64 x.entry, .int .i64 x.exit, .slice x.a1 x.path.length x.c1, .slice x.a2 x.flank.length x.c2, .slice x.a3 x.over.length x.c3, .bool x.shunt] 43)).alloc (.cells #[.int .i64 x.entry, .int .i64 x.exit, .slice x.a1 x.path.length x.c1, .slice x.a2 x.flank.length x.c2, .slice x.a3 x.over.length x.c3, .bool x.shunt] 43)).drew
      simp only [World.size_alloc] at k2
      have HKK := Lib.hid (show _ ∧ _ ∧ _ from ⟨k1, k2, k3⟩)
      clear k1 k2 k3 HK
      go_wp2_with fail
      go_meet
      first
        | exact ⟨_, _, rfl, rfl, Nat.succ_ne_self _, HKK.out.2.1, HKK.out.1, Nat.le_succ _, Nat.le_refl _, HKK.out.2.2⟩
        | exact ⟨_, _, rfl, rfl, (Nat.succ_ne_self _).symm, HKK.out.1, HKK.out.2.1, Nat.le_refl _, Nat.le_succ _, HKK.out.2.2⟩
  case rest =>
    clear q0 q1 q2 q3 q4 q5 is3 in3
    obtain ⟨b9, b10, rfl, rfl, hne, i9, i10, hb9, hb10, f4⟩ := hcut
    have hz3 := HI3.out.lt
    have hn3 := HN3.out.lt
    have is4 := HI3.out.fr f4 id
    have in4 := HN3.out.fr f4 id
    have F4 := fr_nil HF3.out f4
    obtain ⟨hsf, hso, _⟩ : x.flank.length ≤ 32 ∧ x.over.length ≤ 1 ∧ x.path.length ≤ 8 := right_short her
    have HER := Lib.hid her
    clear HI3 HN3 HF3 f4 her
    go_upto_region 8 with (fail)
    have HI10 := Lib.hid i10
    have HI4 := Lib.hid is4
    have HN4 := Lib.hid in4
    have HF4 := Lib.hid F4
    have hl9 := i9.lt
    have hfl := (HH.out.2.flank.fr F4 fun _ _ => id)
    have hfo := (HH.out.2.over.fr F4 fun _ _ => id)
    clear i10 is4 in4 F4
    obtain ⟨i0, hi0, hz0, hz1, hz2⟩ := info_parts Tryz.infoN
    have c3 := (i9.alloc (.cells #[] 67)).cell 3
    simp only [List.getElem?_toArray, List.getElem?_cons_zero, List.getElem?_cons_succ] at c3
    have hrd := hfl.fr ((Fr.refl (fun _ => False) wc).alloc (.cells #[] 67)) fun _ _ => id
    go_wp2_with (at_builtin; refine wpList_append_wide _ rfl (.tmp 42) (.tmp 44) 41 rfl wc.heap.size 67 i0 _ 2 16 Tryz.underlying41 hi0 hz0 hz1 hz2 rfl (by decide) _ 0 [] rfl (own_empty wc 67 2) x.a2 x.c2 x.flank.length (cellsN x.flank) (cellsN_length _) rfl hrd (cellsN_one6 _) (by unfold maxLen; omega) (by omega) (by simp) ?_)
    intro v5 w5 hown5 hg5 _
    have F5 : Fr (fun _ => False) wc w5 := ((Fr.refl (fun _ => False) wc).alloc (.cells #[] 67)).grown hg5 fun k hk => .inr (by have e : wc.heap.size = k := Option.some.inj hk; omega)
    have i95 := i9.fr F5 id
    have hs5 := F5.size
    obtain ⟨A5, c5, rfl, _, _, _, _⟩ := wide_form hown5
    clear hg5 c3 hrd i9
    have hlo5 := World.ownsRow.lt hown5
    have f5a := (Fr.refl (fun _ => False) w5).alloc (.cells #[.int .i64 extra, .int .i64 1] 67)
    go_wp2_with (at_builtin; refine wpList_append_wide _ rfl (.tmp 45) (.tmp 48) 41 rfl wc.heap.size 67 i0 _ 2 16 Tryz.underlying41 hi0 hz0 hz1 hz2 rfl (by decide) (.slice A5 x.flank.length c5) x.flank.length (cellsN x.flank) rfl (hown5.alloc _) (some ⟨w5.heap.size, 0, none⟩) 1 1 [.int .i64 extra, .int .i64 1] rfl rfl (lit_rd w5 _ _) (by simp [Value.oneCell']) (by unfold maxLen; omega) (by omega) (by have := f5a.size; omega) ?_)
    intro v6 w6 hown6 hg6 _
    have F6 : Fr (fun _ => False) wc w6 := (fr_nil F5 f5a).grown hg6 fun k hk => .inr (hlo5 k hk).1
    have f56 : Fr (fun k => wc.heap.size ≤ k) w5 w6 := ((f5a.mono (S' := fun k => wc.heap.size ≤ k) fun _ _ h => h.elim)).trans ((Fr.refl (fun k => wc.heap.size ≤ k) _).grown hg6 fun k hk => .inl (hlo5 k hk).1) fun _ _ h => h
    have i96 := i95.fr f56 (by omega)
    obtain ⟨A6, c6, rfl, hc6, hm6, hA6, _⟩ := wide_form hown6
    obtain ⟨g6, rfl, hg6l⟩ := hA6 (by omega)
    have hg6w : wc.heap.size ≤ g6 := (World.ownsRow.lt hown6 g6 rfl).1
    have e3 := i96.cell 3
    have ez := i96.frozen 3
    simp only [List.getElem?_toArray, List.getElem?_cons_zero, List.getElem?_cons_succ] at e3
    have hrd6 : Rd w6 (some ⟨g6, 0, none⟩) (cellsN (x.flank ++ [⟨extra, 1⟩])) := by rw [cellsN_snoc]; exact wide_rd hown6
    clear hg6 hown5 hown6 f56 f5a F5 i95 hlo5 hfl hi0 hz0 hz1 hz2 hA6
    go_upto_region 9 with (fail)
    clear e3 ez
    have hb9l : b9 < wc.heap.size := hl9
    have hb10l : b10 < wc.heap.size := HI10.out.lt
    have f7 : Fr (fun k => k = b9) wc (w6.setCell ⟨b9, 3, none⟩ (.slice (some ⟨g6, 0, none⟩) (x.flank.length + 1) c6)) := (F6.mono (S' := fun k => k = b9) fun _ _ h => h.elim).setCell (p := ⟨b9, 3, none⟩) (.inl rfl) _
    have f67 : Fr (fun k => k = b9) w6 (w6.setCell ⟨b9, 3, none⟩ (.slice (some ⟨g6, 0, none⟩) (x.flank.length + 1) c6)) := (Fr.refl (fun k => k = b9) w6).setCell (p := ⟨b9, 3, none⟩) (.inl rfl) _
    have i97 := i96.set 3 (.slice (some ⟨g6, 0, none⟩) (x.flank.length + 1) c6)
    simp only [List.setIfInBounds_toArray, List.set_cons_succ, List.set_cons_zero] at i97
    have hrd7 := hrd6.fr f67 fun k hk e => by have e2 : g6 = k := Option.some.inj hk; omega
    have i107 := HI10.out.fr f7 (fun e => hne e.symm)
    have is7 := HI4.out.fr f7 (by omega)
    have in7 := HN4.out.fr f7 (by omega)
    have F7 : Fr (fun _ => False) w _ := HF4.out.trans (f7.mono (S' := fun k => w.heap.size ≤ k) fun k _ e => by have := HZ.out; omega) fun k hk e => by omega
    generalize w6.setCell ⟨b9, 3, none⟩ (.slice (some ⟨g6, 0, none⟩) (x.flank.length + 1) c6) = w7 at *
    have hw7 := f7.size
    clear f67 f7 i96 hrd6 HI10 HI4 HN4 HF4 F6 hg6l
    have HI9 := Lib.hid i97
    have HR7 := Lib.hid hrd7
    have HI7 := Lib.hid is7
    have HN7 := Lib.hid in7
    have HF7 := Lib.hid F7
    have hl10 := i107.lt
    have hl97 := i97.lt
    have hg67 : g6 < w7.heap.size := by obtain ⟨b, o, e, hb, _⟩ := hrd7 (by rw [cellsN_length, List.length_append]; simp); injection e with e; injection e with e1 e2; omega
    have hfo7 := (HH.out.2.over.fr F7 fun _ _ => id)
    clear i97 hrd7 is7 in7 F7 hfo
    obtain ⟨i0, hi0, hz0, hz1, hz2⟩ := info_parts Tryz.infoI
    have c4 := (i107.alloc (.cells #[] 3)).cell 4
    simp only [List.getElem?_toArray, List.getElem?_cons_zero, List.getElem?_cons_succ] at c4
    have hrd := hfo7.fr ((Fr.refl (fun _ => False) w7).alloc (.cells #[] 3)) fun _ _ => id
    go_wp2_with (at_builtin; refine wpList_append_wide _ rfl (.tmp 51) (.tmp 53) 25 rfl w7.heap.size 3 i0 _ 1 8 Tryz.underlying25 hi0 hz0 hz1 hz2 rfl (by decide) _ 0 [] rfl (own_empty w7 3 1) x.a3 x.c3 x.over.length (x.over.map (Value.int .i64)) (by simp) rfl hrd (by intro u hu; obtain ⟨y, _, rfl⟩ := List.mem_map.1 hu; rfl) (by unfold maxLen; omega) (by omega) (by simp) ?_)
    intro v5 w5 hown5 hg5 _
    have F5 : Fr (fun _ => False) w7 w5 := ((Fr.refl (fun _ => False) w7).alloc (.cells #[] 3)).grown hg5 fun k hk => .inr (by have e : w7.heap.size = k := Option.some.inj hk; omega)
    have i105 := i107.fr F5 id
    obtain ⟨A5, c5, rfl, _, _, _, _⟩ := wide_form hown5
    clear hg5 c4 hrd i107
    have hlo5 := World.ownsRow.lt hown5
    have f5a := (Fr.refl (fun _ => False) w5).alloc (.cells #[.int .i64 extra] 3)
    have hs5 := F5.size
    go_wp2_with (at_builtin; refine wpList_append_wide _ rfl (.tmp 54) (.tmp 56) 25 rfl w7.heap.size 3 i0 _ 1 8 Tryz.underlying25 hi0 hz0 hz1 hz2 rfl (by decide) (.slice A5 x.over.length c5) x.over.length (x.over.map (Value.int .i64)) rfl (hown5.alloc _) (some ⟨w5.heap.size, 0, none⟩) 1 1 [.int .i64 extra] rfl rfl (lit_rd w5 _ _) (by simp [Value.oneCell']) (by unfold maxLen; omega) (by omega) (by have := f5a.size; omega) ?_)
    intro v8 w8 hown8 hg8 _
    have F8 : Fr (fun _ => False) w7 w8 := (fr_nil F5 f5a).grown hg8 fun k hk => .inr (hlo5 k hk).1
    have i108 := i105.fr (((f5a.mono (S' := fun k => w7.heap.size ≤ k) fun _ _ h => h.elim)).trans ((Fr.refl (fun k => w7.heap.size ≤ k) _).grown hg8 fun k hk => .inl (hlo5 k hk).1) fun _ _ h => h) (by omega)
    obtain ⟨A8, c8, rfl, hc8, hm8, hA8, _⟩ := wide_form hown8
    obtain ⟨g8, rfl, hg8l⟩ := hA8 (by omega)
    have hg8w : w7.heap.size ≤ g8 := (World.ownsRow.lt hown8 g8 rfl).1
    have e4 := i108.cell 4
    have ez := i108.frozen 4
    simp only [List.getElem?_toArray, List.getElem?_cons_zero, List.getElem?_cons_succ] at e4
    have hrd8 : Rd w8 (some ⟨g8, 0, none⟩) ((x.over ++ [extra]).map (Value.int .i64)) := by rw [List.map_append]; exact wide_rd hown8
    clear hg8 hown5 hown8 f5a F5 i105 hlo5 hfo7 hi0 hz0 hz1 hz2 hA8
    go_upto_region 10 with (fail)
    clear e4 ez
    have f9 : Fr (fun k => k = b10) w7 (w8.setCell ⟨b10, 4, none⟩ (.slice (some ⟨g8, 0, none⟩) (x.over.length + 1) c8)) := (F8.mono (S' := fun k => k = b10) fun _ _ h => h.elim).setCell (p := ⟨b10, 4, none⟩) (.inl rfl) _
    have f89 : Fr (fun k => k = b10) w8 (w8.setCell ⟨b10, 4, none⟩ (.slice (some ⟨g8, 0, none⟩) (x.over.length + 1) c8)) := (Fr.refl (fun k => k = b10) w8).setCell (p := ⟨b10, 4, none⟩) (.inl rfl) _
    have i109 := i108.set 4 (.slice (some ⟨g8, 0, none⟩) (x.over.length + 1) c8)
    simp only [List.setIfInBounds_toArray, List.set_cons_succ, List.set_cons_zero] at i109
    have hrd9 := hrd8.fr f89 fun k hk e => by have e2 : g8 = k := Option.some.inj hk; omega
    have i99 := HI9.out.fr f9 hne
    have hrd79 := HR7.out.fr f9 fun k hk e => by have e2 : g6 = k := Option.some.inj hk; omega
    have is9 := HI7.out.fr f9 (by omega)
    have in9 := HN7.out.fr f9 (by omega)
    have F9 : Fr (fun _ => False) w _ := HF7.out.trans (f9.mono (S' := fun k => w.heap.size ≤ k) fun k _ e => by have := HZ.out; omega) fun k hk e => by omega
    generalize w8.setCell ⟨b10, 4, none⟩ (.slice (some ⟨g8, 0, none⟩) (x.over.length + 1) c8) = w9 at *
    have hs79 := f9.size
    clear f9 f89 i108 hrd8 HI9 HR7 HI7 HN7 HF7 F8 hg8l
    have hg8b : g8 < w9.heap.size := by
      obtain ⟨b, o, e, hb, _⟩ := hrd9 (by simp)
      injection e with e
      injection e with e1 e2
      omega
    have hg6b : g6 < w9.heap.size := by omega
    have hl9 := is9.lt
    have fA := (Fr.refl (fun _ => False) w9).alloc (.cells #[.slice C.A1 C.l.length C.c1, .slice C.A2 C.js.length C.c2, .slice C.A3 C.sg.length C.c3, .slice C.A4 C.cr.length C.c4, .slice C.A5 C.rs.length C.c5, .int .i64 C.tm.age, .int .i64 C.tm.brake, .int .i64 C.tm.hold, .int .i64 C.tm.budget] 30)
    have iL := Is.new w9 30 #[.slice C.A1 C.l.length C.c1, .slice C.A2 C.js.length C.c2, .slice C.A3 C.sg.length C.c3, .slice C.A4 C.cr.length C.c4, .slice C.A5 C.rs.length C.c5, .int .i64 C.tm.age, .int .i64 C.tm.brake, .int .i64 C.tm.hold, .int .i64 C.tm.budget]
    have isA := is9.alloc (.cells #[.slice C.A1 C.l.length C.c1, .slice C.A2 C.js.length C.c2, .slice C.A3 C.sg.length C.c3, .slice C.A4 C.cr.length C.c4, .slice C.A5 C.rs.length C.c5, .int .i64 C.tm.age, .int .i64 C.tm.brake, .int .i64 C.tm.hold, .int .i64 C.tm.budget] 30)
    obtain ⟨p0, p1, p2, p3, p4, p5, p6, p7, p8⟩ := conf_cells is9
    go_upto_region 11 with (fail)
    clear p0 p1 p2 p3 p4 p5 p6 p7 p8
    have i99A := i99.alloc (.cells #[.slice C.A1 C.l.length C.c1, .slice C.A2 C.js.length C.c2, .slice C.A3 C.sg.length C.c3, .slice C.A4 C.cr.length C.c4, .slice C.A5 C.rs.length C.c5, .int .i64 C.tm.age, .int .i64 C.tm.brake, .int .i64 C.tm.hold, .int .i64 C.tm.budget] 30)
    have i109A := i109.alloc (.cells #[.slice C.A1 C.l.length C.c1, .slice C.A2 C.js.length C.c2, .slice C.A3 C.sg.length C.c3, .slice C.A4 C.cr.length C.c4, .slice C.A5 C.rs.length C.c5, .int .i64 C.tm.age, .int .i64 C.tm.brake, .int .i64 C.tm.hold, .int .i64 C.tm.budget] 30)
    have in9A := in9.alloc (.cells #[.slice C.A1 C.l.length C.c1, .slice C.A2 C.js.length C.c2, .slice C.A3 C.sg.length C.c3, .slice C.A4 C.cr.length C.c4, .slice C.A5 C.rs.length C.c5, .int .i64 C.tm.age, .int .i64 C.tm.brake, .int .i64 C.tm.hold, .int .i64 C.tm.budget] 30)
    have hrd9A := hrd9.fr fA fun _ _ => id
    have hrd79A := hrd79.fr fA fun _ _ => id
    have FA := fr_nil F9 fA
    have hl9' := i99.lt
    have hl10' := i109.lt
    have hln' := in9.lt
    have hwA := F9.size
    generalize w9.alloc _ = wA at *
    generalize w9.heap.size = bL at *
    clear fA F9 hrd9 hrd79 i99 i109 in9 is9
    obtain ⟨y1, y2, y3, y4⟩ : 1 ≤ C.tm.age ∧ C.tm.age ≤ 8 ∧ 0 ≤ C.tm.brake ∧ C.tm.brake ≤ 8 := time_bd HC.out
    obtain ⟨p0, p1, p2, p3, p4, p5, p6, p7, p8⟩ := conf_cells isA
    obtain ⟨z0, z1, z2, z3, z4, z5, z6, z7, z8⟩ := conf_cells iL
    have lz := iL.frozen 7
    go_upto_region 12 with (fail)
    clear p0 p1 p2 p3 p4 p5 p6 p7 p8 z0 z1 z2 z3 z4 z5 z6 z7 z8 lz
    have fB : Fr (fun k => k = bL) wA (wA.setCell ⟨bL, 7, none⟩ (.int .i64 (C.tm.age + C.tm.brake))) := (Fr.refl (fun k => k = bL) wA).setCell (p := ⟨bL, 7, none⟩) (.inl rfl) _
    have iLB := iL.set 7 (.int .i64 (C.tm.age + C.tm.brake))
    simp only [List.setIfInBounds_toArray, List.set_cons_succ, List.set_cons_zero] at iLB
    have isB := isA.fr fB (by omega)
    have inB := in9A.fr fB (by omega)
    have i9B := i99A.fr fB (by omega)
    have i10B := i109A.fr fB (by omega)
    have FB : Fr (fun _ => False) w _ := FA.trans (fB.mono (S' := fun k => w.heap.size ≤ k) fun k _ e => by have := HZ.out; omega) fun k hk e => by omega
    have hrfB := hrd79A.fr fB fun k hk e => by have e2 : g6 = k := Option.some.inj hk; omega
    have hroB := hrd9A.fr fB fun k hk e => by have e2 : g8 = k := Option.some.inj hk; omega
    generalize wA.setCell ⟨bL, 7, none⟩ (.int .i64 (C.tm.age + C.tm.brake)) = wB at *
    clear fB iL isA in9A i99A i109A FA hrd79A hrd9A
    have hxw := HH.out.2.fr FB
    have hcw := HH.out.1.fr FB
    have hxf : ({ x with a2 := some ⟨g6, 0, none⟩, c2 := c6, flank := x.flank ++ [⟨extra, 1⟩] } : Ro).Ok wB := by
      refine ⟨hxw.path, hrfB, hxw.over, hxw.l1, ?_, hxw.l3, hxw.b1, ?_, hxw.b3, hxw.k1, ?_, hxw.k3⟩
      · show (x.flank ++ [_]).length ≤ c6
        rw [List.length_append]; exact hc6
      · show (x.flank ++ [_]).length * 16 ≤ _
        rw [List.length_append]; simp; omega
      · show c6 ≤ _
        unfold maxLen at hm6; omega
    have hxo : ({ x with a3 := some ⟨g8, 0, none⟩, c3 := c8, over := x.over ++ [extra] } : Ro).Ok wB := by
      refine ⟨hxw.path, hxw.flank, hroB, hxw.l1, hxw.l2, ?_, hxw.b1, hxw.b2, ?_, hxw.k1, hxw.k2, ?_⟩
      · show (x.over ++ [_]).length ≤ c8
        rw [List.length_append]; exact hc8
      · show (x.over ++ [_]).length * 8 ≤ _
        rw [List.length_append]; simp; omega
      · show c8 ≤ _
        unfold maxLen at hm8; omega
    have hnr : n < C.cf.rts.length := by unfold Cm.cf; rw [List.length_map]; exact hnl
    have hE1 : Hid (∀ g c, checkE (withR C g c n { x with a2 := some ⟨g6, 0, none⟩, c2 := c6, flank := x.flank ++ [⟨extra, 1⟩] }).cf = 10) := Lib.hid fun g c => by
      rw [withR_cf, check_set HC.out hnr]
      exact flank_err HER.out ⟨extra, 1⟩
    have hE2 : Hid (∀ g c, checkE (withR C g c n { x with a3 := some ⟨g8, 0, none⟩, c3 := c8, over := x.over ++ [extra] }).cf = 11) := Lib.hid fun g c => by
      rw [withR_cf, check_set HC.out hnr]
      exact over_err HER.out extra
    have hE3 : Hid (∀ g c, checkE (withR C g c n x).cf = 0) := Lib.hid fun g c => by
      rw [withR_cf, check_set HC.out hnr]
      exact HER.out
    have KW1 := with_any wB hcw hxf isB inB hnl
    unfold Ro.val at KW1
    simp only [List.length_append, List.length_cons, List.length_nil, Nat.zero_add] at KW1
    have d0 := i9B.cell 0
    have d1 := i9B.cell 1
    have d2 := i9B.cell 2
    have d3 := i9B.cell 3
    have d4 := i9B.cell 4
    have d5 := i9B.cell 5
    simp only [List.getElem?_toArray, List.getElem?_cons_zero, List.getElem?_cons_succ] at d0 d1 d2 d3 d4 d5
    clear hxf hcw hxw
    go_wp2_with fail
    refine KW1.mono ?_
    clear KW1 d0 d1 d2 d3 d4 d5
    rintro _ w12 ⟨g1, c1, rfl, hok1, f12⟩
    have K := chk_any _ w12 hok1
    rw [hE1.out] at K
    clear hok1
    have i10c := i10B.fr f12 id
    have isc := isB.fr f12 id
    have inc := inB.fr f12 id
    have iLc := iLB.fr f12 id
    have Fc := fr_nil FB f12
    have hroc := hroB.fr f12 fun _ _ => id
    clear i10B isB inB iLB FB hroB f12 i9B hrfB
    generalize (withR C g1 c1 n _).val = V1 at *
    go_wp2_with fail
    refine K.mono ?_
    clear K
    rintro _ w13 ⟨rfl, f13⟩
    have i10d := i10c.fr f13 id
    have isd := isc.fr f13 id
    have ind := inc.fr f13 id
    have iLd := iLc.fr f13 id
    have Fd := fr_nil Fc f13
    have hrod := hroc.fr f13 fun _ _ => id
    clear i10c isc inc iLc Fc hroc f13
    have hxw := HH.out.2.fr Fd
    have hxo : ({ x with a3 := some ⟨g8, 0, none⟩, c3 := c8, over := x.over ++ [extra] } : Ro).Ok w13 := by
      refine ⟨hxw.path, hxw.flank, hrod, hxw.l1, hxw.l2, ?_, hxw.b1, hxw.b2, ?_, hxw.k1, hxw.k2, ?_⟩
      · show (x.over ++ [_]).length ≤ c8
        rw [List.length_append]; exact hc8
      · show (x.over ++ [_]).length * 8 ≤ _
        rw [List.length_append]; simp; omega
      · show c8 ≤ _
        unfold maxLen at hm8; omega
    have KW2 := with_any w13 (HH.out.1.fr Fd) hxo isd ind hnl
    unfold Ro.val at KW2
    simp only [List.length_append, List.length_cons, List.length_nil, Nat.zero_add] at KW2
    have d0 := i10d.cell 0
    have d1 := i10d.cell 1
    have d2 := i10d.cell 2
    have d3 := i10d.cell 3
    have d4 := i10d.cell 4
    have d5 := i10d.cell 5
    simp only [List.getElem?_toArray, List.getElem?_cons_zero, List.getElem?_cons_succ] at d0 d1 d2 d3 d4 d5
    clear hxo hxw i10d hrod
    go_wp2_with fail
    refine KW2.mono ?_
    clear KW2 d0 d1 d2 d3 d4 d5
    rintro _ w14 ⟨g2, c2, rfl, hok2, f14⟩
    have K := chk_any _ w14 hok2
    rw [hE2.out] at K
    clear hok2
    have ise := isd.fr f14 id
    have ine := ind.fr f14 id
    have iLe := iLd.fr f14 id
    have Fe := fr_nil Fd f14
    clear isd ind iLd Fd f14
    generalize (withR C g2 c2 n _).val = V2 at *
    go_wp2_with fail
    refine K.mono ?_
    clear K
    rintro _ w15 ⟨rfl, f15⟩
    have isf := ise.fr f15 id
    have inf := ine.fr f15 id
    have iLf := iLe.fr f15 id
    have Ff := fr_nil Fe f15
    clear ise ine iLe Fe f15
    obtain ⟨p0, p1, p2, p3, p4, p5, p6, p7, p8⟩ := conf_cells6 iLf
    have hcl : ({ C with tm := { C.tm with hold := C.tm.age + C.tm.brake } } : Cm).Ok w15 := by
      have a := HH.out.1.fr Ff
      exact { a with }
    have K := chk_any _ w15 hcl
    rw [show ({ C with tm := { C.tm with hold := C.tm.age + C.tm.brake } } : Cm).cf = { C.cf with tm := { C.cf.tm with hold := C.cf.tm.age + C.cf.tm.brake } } from rfl, late_err HC.out] at K
    unfold Cm.val Cm.arr at K
    dsimp only at K
    clear hcl
    go_wp2_with fail
    refine K.mono ?_
    clear K p0 p1 p2 p3 p4 p5 p6 p7 p8 iLf
    rintro _ w16 ⟨rfl, f16⟩
    have isg := isf.fr f16 id
    have ing := inf.fr f16 id
    have Fg := fr_nil Ff f16
    clear isf inf Ff f16
    have KW3 := with_any w16 (HH.out.1.fr Fg) (HH.out.2.fr Fg) isg ing hnl
    unfold Ro.val at KW3
    obtain ⟨ga2, oa2, ha2, q0, q1, q2, q3, q4, q5⟩ := rd_ro ((HH.out.1.fr Fg).rts) hnl
    rw [HX.out] at q0 q1 q2 q3 q4 q5
    rw [HA.out] at ha2
    injection ha2 with ha2
    injection ha2 with e1 e2
    subst e1 e2
    have p4 := isg.cell 4
    have n0 := ing.cell 0
    rw [HA.out] at p4
    simp only [List.getElem?_toArray, List.getElem?_cons_zero, List.getElem?_cons_succ] at p4 n0
    have j1 : (0 : Int) ≤ (n : Int) := by omega
    have j2 : (n : Int) < (C.rs.length : Int) := by omega
    clear isg ing
    go_wp2_with fail
    refine KW3.mono ?_
    clear KW3 q0 q1 q2 q3 q4 q5 p4 n0
    rintro _ w17 ⟨g3, c3, rfl, hok3, f17⟩
    have K := chk_any _ w17 hok3
    rw [hE3.out] at K
    clear hok3
    have Fh := fr_nil Fg f17
    clear Fg f17
    generalize (withR C g3 c3 n _).val = V3 at *
    go_wp2_with fail
    refine K.mono ?_
    clear K
    rintro _ w18 ⟨rfl, f18⟩
    have Fi := fr_nil Fh f18
    clear Fh f18
    go_wp2_with fail
    go_ret
    exact ⟨rfl, Fi⟩
end Go.Proofs.YtbjbkaphigolnaaGreatDoor
/- ConfSpoilt (P6.1): a right station in which a route's flank, its overlap, or the timing is another one is refused, each with its own error; as it was it is right. For every configuration and every two whole numbers. The package-level variables that its row lists hold what the program's text lays (the card ties that); no other condition. -/
namespace Go.Proofs.YtbjbkaphigolnaaGreatDoor.confSpoilt
open Go.ChangeShapes Go.WideShapes Go.ChangeAt Go.RowKit Go.Lib
open Go.ChangeMaps (open_string shut_string)

def wA : Array Value := #[.agg zeroCf, .int .i64 0, .int .i64 0]
theorem met (os : Os) : laidMet Tryz.prog Rows.confSpoiltRow.laid ((laidWorld os).forCall (fun _ _ => 0) ⟨#[], wA, []⟩).memory := laid_met os
theorem witness_row (os : Os) {H : Type} (enc : TypeId × Value → H) :
    (OpenSpec.ofChange Rows.confSpoiltSpec).preRow enc Tryz.prog Tryz.f7 Rows.confSpoiltRow.domain false Rows.confSpoiltRow.laid ((laidWorld os).forCall (fun _ _ => 0) ⟨#[], wA, []⟩).memory wA := by
  have hw : (DataW.whole enc Tryz.prog ((laidWorld os).forCall (fun _ _ => 0) ⟨#[], wA, []⟩).memory Tryz.f7.params.toList Rows.confSpoiltSpec.vars false wA.toList 8).map (fun x => (x.1, x.2.1)) =
      some ([.agg [.nil, .nil, .nil, .nil, .nil, .agg [.lit (.int .i64 0), .lit (.int .i64 0), .lit (.int .i64 0), .lit (.int .i64 0)]], .lit (.int .i64 0), .lit (.int .i64 0)], []) := by kernel_rfl
  obtain ⟨⟨x1, x2, x3⟩, hx, hx1⟩ := Option.map_eq_some_iff.1 hw
  simp only [Prod.mk.injEq] at hx1
  obtain ⟨rfl, rfl⟩ := hx1
  exact OpenSpec.preRow_of_cond 8 hx (by kernel_rfl) (fun k hk => by cases hk) (by kernel_rfl) (met os)

set_option maxRecDepth 100000 in
theorem lifted (os : Os) (started : os.Started) (H : Type) (enc : TypeId × Value → H) (F : Stop.Interp) :
    ReturnsInHanded {} Tryz.checked os 7 .any ((OpenSpec.ofChange Rows.confSpoiltSpec).preRow enc Tryz.prog Tryz.f7 Rows.confSpoiltRow.domain false Rows.confSpoiltRow.laid) (((OpenSpec.ofChange Rows.confSpoiltSpec).at F).post enc Tryz.prog Tryz.f7 false true false false) := by
  refine returnsInHanded_of_row (C := Tryz.checked) (s := OpenSpec.ofChange Rows.confSpoiltSpec) Tryz.own started (by kernel_rfl) Tryz.func7
    (witness_row_atRef (enc := enc) (C := Tryz.checked) false (laidWorld os) wA rfl (by kernel_rfl) (by kernel_rfl) (by kernel_rfl) (witness_row os enc)) ?_
  intro W base args ds gs before hval0 hW _ hcond hsz0 hL hsh _
  have hval : ∀ (j : Nat) t v, Tryz.f7.params[j]? = some t → args[j]? = some v → Value.okWide Tryz.prog W .any base t v := hval0
  have hsz : (DataW.weightsEach Tryz.prog (Tryz.f7.params.toList ++ (OpenSpec.ofChange Rows.confSpoiltSpec).bare.plain.varTypes Tryz.prog) (ds ++ gs)).all (· ≤ reachBytes) = true := hsz0
  have hW' := hW
  obtain ⟨p, q, hA0, hV, rfl, hfz, hnd⟩ := hW
  have hA : DataW.TrodAll enc Tryz.prog W 0 (fun _ => true) true Tryz.f7.params.toList args.toList ds p := hA0
  rw [Tryz.params7] at hA hval hsz
  obtain ⟨v0, v1, v2, d0, d1, d2, p0, p1, p2, rfl, rfl, rfl, h0, h1, h2⟩ := trodAll_three hA
  obtain ⟨rfl, rfl⟩ := trodVars_none hV
  obtain ⟨C, rfl, hin⟩ := open_conf (hval 0 30 v0 rfl rfl) h0
  obtain ⟨a1, rfl, rfl, rfl, w1⟩ := open_int Tryz.underlying3 (hval 1 3 v1 rfl rfl) h1
  obtain ⟨a2, rfl, rfl, rfl, w2⟩ := open_int Tryz.underlying3 (hval 2 3 v2 rfl rfl) h2
  have hok : C.Ok W := conf_ok hin hsz (j := 0) rfl rfl
  refine (spoilt_any C a1 a2 W hok (laid_rds hL hsh) (laid_pow hL)).mono fun e W' ⟨he, hb⟩ => ?_
  subst he
  exact law_post hW' rfl (by kernel_rfl) (by rw [Tryz.params7]; exact of_decide_eq_true (by kernel_rfl)) rfl rfl rfl hb.toBelow0

theorem said : Rows.ConfSpoiltSaid :=
  OpenClaim.holds_of_cond 7 Tryz.f7 rfl rfl rfl rfl rfl rfl rfl ⟨rfl, rfl, rfl, rfl, rfl⟩ rfl rfl rfl rfl rfl (by kernel_rfl) Tryz.func7 (by kernel_rfl)
    (of_decide_eq_true (by kernel_rfl)) (by unfold Func.isWrapper; first | (rw [if_pos (by decide +kernel)]; kernel_rfl) | (rw [if_neg (by decide +kernel)]; exact ⟨rfl, rfl⟩))
    (fun os started H enc _ F => by rw [OpenClaim.pre_eq_preRow]; exact lifted os started H enc F)

/-- No parameter wants a stand-in: what the card asks. -/
theorem plain (f : FuncId) (fn : Func) (hf : Tryz.pinned.checked.prog.funcNamed "ballast/ballastlaw06.ConfSpoilt" = some f) (hfn : Tryz.pinned.checked.prog.funcs[f]? = some fn) :
    true = Tryz.pinned.checked.prog.looks [] ∧ ∀ (j : Nat) t, fn.params[j]? = some t → Tryz.pinned.checked.prog.wantsStandIn t = false := by
  obtain rfl : f = 7 := Option.some.inj ((show Tryz.prog.funcNamed "ballast/ballastlaw06.ConfSpoilt" = some 7 by kernel_rfl).symm.trans hf) |>.symm
  obtain rfl : fn = Tryz.f7 := (Option.some.inj (Tryz.func7.symm.trans hfn)).symm
  refine ⟨by kernel_rfl, fun j t ht => ?_⟩
  rw [Tryz.params7] at ht
  have hm := Array.mem_of_getElem? ht
  simp only [List.mem_toArray, List.mem_cons, List.not_mem_nil, or_false] at hm
  rcases hm with rfl | rfl | rfl
  · exact (show Tryz.prog.wantsStandIn 30 = false by kernel_rfl)
  · exact (show Tryz.prog.wantsStandIn 3 = false by kernel_rfl)
  · exact (show Tryz.prog.wantsStandIn 3 = false by kernel_rfl)

theorem proved : Rows.ConfSpoiltCardSaid :=
  Claim7.holds_tied_plain_at .later [] _ _ _ _ said (fun _ h => by cases h) (by kernel_rfl) (fun _ h => by cases h) confSpoilt_row_tie rfl ⟨rfl, rfl⟩ (by kernel_rfl) rfl plain (by kernel_rfl)
end Go.Proofs.YtbjbkaphigolnaaGreatDoor.confSpoilt

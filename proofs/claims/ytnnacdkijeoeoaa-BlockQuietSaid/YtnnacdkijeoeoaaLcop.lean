/- The contract of the program's copied. -/
import Derived.Test.YtnnacdkijeoeoaaLfit3
import Derived.Test.YtnnacdkijeoeoaaLclone
import Derived.Deep.RegionHeld3
namespace Go.Proofs.Ytnnacdkijeoeoaa.Lk
open Go.RowKit

theorem seven {w : World} {b : Nat} {v0 v1 v2 v3 v4 v5 v6 : Value} {t : TypeId} (h : Is w b t #[v0, v1, v2, v3, v4, v5, v6]) : w.cell? ⟨b, 0, none⟩ = some v0 ∧ w.cell? ⟨b, 1, none⟩ = some v1 ∧ w.cell? ⟨b, 2, none⟩ = some v2 ∧ w.cell? ⟨b, 3, none⟩ = some v3 ∧ w.cell? ⟨b, 4, none⟩ = some v4 ∧ w.cell? ⟨b, 5, none⟩ = some v5 ∧ w.cell? ⟨b, 6, none⟩ = some v6 :=
  ⟨h.cell 0, h.cell 1, h.cell 2, h.cell 3, h.cell 4, h.cell 5, h.cell 6⟩
/-- a state comes back in memory of its own -/
def Back (w : World) (k : Kp) (e : Ending) (w' : World) : Prop := ∃ K : Km, e = .returned K.val ∧ K.kp = k ∧ K.Own w.heap.size w' ∧ Fr (fun _ => False) w w'
set_option maxRecDepth 100000 in
set_option maxHeartbeats 8000000 in
theorem copied_any (K : Km) (w : World) (h : K.Ok w) : Calls Try.prog 17 #[K.val] w (Back w K.kp) := by
  have hK := Lib.hid h
  have HF := Lib.hid (((Fr.refl (fun _ => False) w).alloc (.cells K.arr 35)).alloc (.cells #[.slice none 0 0, .slice none 0 0, .slice none 0 0, .slice none 0 0, .slice none 0 0, .slice none 0 0, .bool false] 35))
  have HIK := Lib.hid ((Is.new w 35 K.arr).alloc (.cells #[.slice none 0 0, .slice none 0 0, .slice none 0 0, .slice none 0 0, .slice none 0 0, .slice none 0 0, .bool false] 35))
  have HIR := Lib.hid (Is.new (w.alloc (.cells K.arr 35)) 35 #[.slice none 0 0, .slice none 0 0, .slice none 0 0, .slice none 0 0, .slice none 0 0, .slice none 0 0, .bool false])
  rw [show (w.alloc (.cells K.arr 35)).heap.size = w.heap.size + 1 by simp] at HIR
  clear h
  unfold Km.val Km.arr at *
  go_enter Try.func17, Try.ntmps17
  go_upto_region 1 with (fail)
  have hz1 : ((w.alloc (.cells #[.slice K.A1 K.own.length K.c1, .slice K.A2 K.rts.length K.c2, .slice K.A3 K.pts.length K.c3, .slice K.A4 K.crs.length K.c4, .slice K.A5 K.lns.length K.c5, .slice K.A6 K.rss.length K.c6, .bool K.dirty] 35)).alloc (.cells #[.slice none 0 0, .slice none 0 0, .slice none 0 0, .slice none 0 0, .slice none 0 0, .slice none 0 0, .bool false] 35)).heap.size = w.heap.size + 2 := by simp
  generalize ((w.alloc _).alloc _) = w1 at *
  have HS : Hid (∀ W, Fr (fun q => q = w.heap.size + 1) w1 W → W.cell? ⟨w.heap.size, 0, none⟩ = some (.slice K.A1 K.own.length K.c1) ∧ W.cell? ⟨w.heap.size, 1, none⟩ = some (.slice K.A2 K.rts.length K.c2) ∧ W.cell? ⟨w.heap.size, 2, none⟩ = some (.slice K.A3 K.pts.length K.c3) ∧ W.cell? ⟨w.heap.size, 3, none⟩ = some (.slice K.A4 K.crs.length K.c4) ∧ W.cell? ⟨w.heap.size, 4, none⟩ = some (.slice K.A5 K.lns.length K.c5) ∧ W.cell? ⟨w.heap.size, 5, none⟩ = some (.slice K.A6 K.rss.length K.c6) ∧ W.cell? ⟨w.heap.size, 6, none⟩ = some (.bool K.dirty)) := Lib.hid fun W fw => seven (HIK.out.fr fw (by omega))
  have HG0 := Lib.hid (Fr.refl (fun _ => False) w1).drew
  refine wp_region_held_drew (S := (fun Wx => Wx.cell? ⟨w.heap.size, 0, none⟩ = some (.slice K.A1 K.own.length K.c1) ∧ Wx.cell? ⟨w.heap.size, 1, none⟩ = some (.slice K.A2 K.rts.length K.c2) ∧ Wx.cell? ⟨w.heap.size, 2, none⟩ = some (.slice K.A3 K.pts.length K.c3) ∧ Wx.cell? ⟨w.heap.size, 3, none⟩ = some (.slice K.A4 K.crs.length K.c4) ∧ Wx.cell? ⟨w.heap.size, 4, none⟩ = some (.slice K.A5 K.lns.length K.c5) ∧ Wx.cell? ⟨w.heap.size, 5, none⟩ = some (.slice K.A6 K.rss.length K.c6) ∧ Wx.cell? ⟨w.heap.size, 6, none⟩ = some (.bool K.dirty))) (by kernel_rfl) (HS.out _ (Fr.refl _ w1).drew) (fun hHeld => ?_)
  refine wpAnyH_take (i := 0) (oi := { dst := some 3, op := _, type := _, pos := _, after := _, guard := _ }) (v := ?_) rfl (by kernel_rfl) (by kernel_rfl) (by kernel_rfl) (fun _ _ _ h => h) (Or.inl ⟨by rfl, ?_⟩) (by assumption) ?_
  rotate_left
  · intro Wx hSw
    try dsimp only at hSw
    go_simp
    try with_reducible rfl
  try simp only [Act.put, List.setIfInBounds_toArray, List.set_cons_zero, List.set_cons_succ]
  refine wpAnyH_take (i := 1) (oi := { dst := some 4, op := _, type := _, pos := _, after := _, guard := _ }) (v := ?_) rfl (by kernel_rfl) (by kernel_rfl) (by kernel_rfl) (fun _ _ _ h => h) (Or.inl ⟨by rfl, ?_⟩) (by assumption) ?_
  rotate_left
  · intro Wx hSw
    try dsimp only at hSw
    go_simp
    try with_reducible rfl
  try simp only [Act.put, List.setIfInBounds_toArray, List.set_cons_zero, List.set_cons_succ]
  refine wpAnyH_take (i := 3) (oi := { dst := some 6, op := _, type := _, pos := _, after := _, guard := _ }) (v := ?_) rfl (by kernel_rfl) (by kernel_rfl) (by kernel_rfl) (fun _ _ _ h => h) (Or.inl ⟨by rfl, ?_⟩) (by assumption) ?_
  rotate_left
  · intro Wx hSw
    try dsimp only at hSw
    go_simp
    try with_reducible rfl
  try simp only [Act.put, List.setIfInBounds_toArray, List.set_cons_zero, List.set_cons_succ]
  refine wpAnyH_take (i := 4) (oi := { dst := some 7, op := _, type := _, pos := _, after := _, guard := _ }) (v := ?_) rfl (by kernel_rfl) (by kernel_rfl) (by kernel_rfl) (fun _ _ _ h => h) (Or.inl ⟨by rfl, ?_⟩) (by assumption) ?_
  rotate_left
  · intro Wx hSw
    try dsimp only at hSw
    go_simp
    try with_reducible rfl
  try simp only [Act.put, List.setIfInBounds_toArray, List.set_cons_zero, List.set_cons_succ]
  refine wpAnyH_take (i := 6) (oi := { dst := some 9, op := _, type := _, pos := _, after := _, guard := _ }) (v := ?_) rfl (by kernel_rfl) (by kernel_rfl) (by kernel_rfl) (fun _ _ _ h => h) (Or.inl ⟨by rfl, ?_⟩) (by assumption) ?_
  rotate_left
  · intro Wx hSw
    try dsimp only at hSw
    go_simp
    try with_reducible rfl
  try simp only [Act.put, List.setIfInBounds_toArray, List.set_cons_zero, List.set_cons_succ]
  refine wpAnyH_take (i := 7) (oi := { dst := some 10, op := _, type := _, pos := _, after := _, guard := _ }) (v := ?_) rfl (by kernel_rfl) (by kernel_rfl) (by kernel_rfl) (fun _ _ _ h => h) (Or.inl ⟨by rfl, ?_⟩) (by assumption) ?_
  rotate_left
  · intro Wx hSw
    try dsimp only at hSw
    go_simp
    try with_reducible rfl
  try simp only [Act.put, List.setIfInBounds_toArray, List.set_cons_zero, List.set_cons_succ]
  refine wpAnyH_take (i := 9) (oi := { dst := some 12, op := _, type := _, pos := _, after := _, guard := _ }) (v := ?_) rfl (by kernel_rfl) (by kernel_rfl) (by kernel_rfl) (fun _ _ _ h => h) (Or.inl ⟨by rfl, ?_⟩) (by assumption) ?_
  rotate_left
  · intro Wx hSw
    try dsimp only at hSw
    go_simp
    try with_reducible rfl
  try simp only [Act.put, List.setIfInBounds_toArray, List.set_cons_zero, List.set_cons_succ]
  refine wpAnyH_take (i := 10) (oi := { dst := some 13, op := _, type := _, pos := _, after := _, guard := _ }) (v := ?_) rfl (by kernel_rfl) (by kernel_rfl) (by kernel_rfl) (fun _ _ _ h => h) (Or.inl ⟨by rfl, ?_⟩) (by assumption) ?_
  rotate_left
  · intro Wx hSw
    try dsimp only at hSw
    go_simp
    try with_reducible rfl
  try simp only [Act.put, List.setIfInBounds_toArray, List.set_cons_zero, List.set_cons_succ]
  refine wpAnyH_take (i := 12) (oi := { dst := some 15, op := _, type := _, pos := _, after := _, guard := _ }) (v := ?_) rfl (by kernel_rfl) (by kernel_rfl) (by kernel_rfl) (fun _ _ _ h => h) (Or.inl ⟨by rfl, ?_⟩) (by assumption) ?_
  rotate_left
  · intro Wx hSw
    try dsimp only at hSw
    go_simp
    try with_reducible rfl
  try simp only [Act.put, List.setIfInBounds_toArray, List.set_cons_zero, List.set_cons_succ]
  refine wpAnyH_take (i := 13) (oi := { dst := some 16, op := _, type := _, pos := _, after := _, guard := _ }) (v := ?_) rfl (by kernel_rfl) (by kernel_rfl) (by kernel_rfl) (fun _ _ _ h => h) (Or.inl ⟨by rfl, ?_⟩) (by assumption) ?_
  rotate_left
  · intro Wx hSw
    try dsimp only at hSw
    go_simp
    try with_reducible rfl
  try simp only [Act.put, List.setIfInBounds_toArray, List.set_cons_zero, List.set_cons_succ]
  refine wpAnyH_take (i := 15) (oi := { dst := some 18, op := _, type := _, pos := _, after := _, guard := _ }) (v := ?_) rfl (by kernel_rfl) (by kernel_rfl) (by kernel_rfl) (fun _ _ _ h => h) (Or.inl ⟨by rfl, ?_⟩) (by assumption) ?_
  rotate_left
  · intro Wx hSw
    try dsimp only at hSw
    go_simp
    try with_reducible rfl
  try simp only [Act.put, List.setIfInBounds_toArray, List.set_cons_zero, List.set_cons_succ]
  refine wpAnyH_take (i := 16) (oi := { dst := some 19, op := _, type := _, pos := _, after := _, guard := _ }) (v := ?_) rfl (by kernel_rfl) (by kernel_rfl) (by kernel_rfl) (fun _ _ _ h => h) (Or.inl ⟨by rfl, ?_⟩) (by assumption) ?_
  rotate_left
  · intro Wx hSw
    try dsimp only at hSw
    go_simp
    try with_reducible rfl
  try simp only [Act.put, List.setIfInBounds_toArray, List.set_cons_zero, List.set_cons_succ]
  refine wpAnyH_take (i := 18) (oi := { dst := some 21, op := _, type := _, pos := _, after := _, guard := _ }) (v := ?_) rfl (by kernel_rfl) (by kernel_rfl) (by kernel_rfl) (fun _ _ _ h => h) (Or.inl ⟨by rfl, ?_⟩) (by assumption) ?_
  rotate_left
  · intro Wx hSw
    try dsimp only at hSw
    go_simp
    try with_reducible rfl
  try simp only [Act.put, List.setIfInBounds_toArray, List.set_cons_zero, List.set_cons_succ]
  refine wpAnyH_take (i := 19) (oi := { dst := some 22, op := _, type := _, pos := _, after := _, guard := _ }) (v := ?_) rfl (by kernel_rfl) (by kernel_rfl) (by kernel_rfl) (fun _ _ _ h => h) (Or.inl ⟨by rfl, ?_⟩) (by assumption) ?_
  rotate_left
  · intro Wx hSw
    try dsimp only at hSw
    go_simp
    try with_reducible rfl
  try simp only [Act.put, List.setIfInBounds_toArray, List.set_cons_zero, List.set_cons_succ]
  refine wpAnyH_ready (rs := [2]) (by kernel_rfl) (by simp) (AllReadyH.cons rfl (fun KK hKK => ?_) AllReadyH.nil)
  go_simp
  refine (clone_any (c := K.c1) _ (hK.out.own.fr (fr_nil HF.out HG0.out) fun _ _ => id) (by have := hK.out.b1; omega)).mono ?_
  rintro e v1 ⟨B1, e1, rfl, o1, fv⟩
  have HO1 := Lib.hid o1
  have HB1 := Lib.hid HG0.out.size
  have HG1 := Lib.hid (fr_nil HG0.out fv)
  clear fv o1
  go_simp
  refine hKK.out _ _ (HS.out _ (HG1.out.mono fun _ _ h => h.elim)) (fun hHeld => ?_)
  clear hKK KK
  refine wpAnyH_ready (rs := [5]) (by kernel_rfl) (by simp) (AllReadyH.cons rfl (fun KK hKK => ?_) AllReadyH.nil)
  go_simp
  refine (cloners_any (c := K.c2) _ (hK.out.rts.fr (fr_nil HF.out HG1.out) fun _ _ => id) (by have := hK.out.b2; omega)).mono ?_
  rintro e v2 ⟨B2, e2, rfl, o2, fv⟩
  have HO2 := Lib.hid o2
  have HB2 := Lib.hid HG1.out.size
  have HO1 := Lib.hid (wide_fr HO1.out fv fun _ _ => id)
  have HG2 := Lib.hid (fr_nil HG1.out fv)
  clear fv o2
  go_simp
  refine hKK.out _ _ (HS.out _ (HG2.out.mono fun _ _ h => h.elim)) (fun hHeld => ?_)
  clear hKK KK
  refine wpAnyH_ready (rs := [8]) (by kernel_rfl) (by simp) (AllReadyH.cons rfl (fun KK hKK => ?_) AllReadyH.nil)
  go_simp
  refine (clonemo_any (c := K.c3) _ (hK.out.pts.fr (fr_nil HF.out HG2.out) fun _ _ => id) (by have := hK.out.b3; omega)).mono ?_
  rintro e v3 ⟨B3, e3, rfl, o3, fv⟩
  have HO3 := Lib.hid o3
  have HB3 := Lib.hid HG2.out.size
  have HO1 := Lib.hid (wide_fr HO1.out fv fun _ _ => id)
  have HO2 := Lib.hid (wide_fr HO2.out fv fun _ _ => id)
  have HG3 := Lib.hid (fr_nil HG2.out fv)
  clear fv o3
  go_simp
  refine hKK.out _ _ (HS.out _ (HG3.out.mono fun _ _ h => h.elim)) (fun hHeld => ?_)
  clear hKK KK
  refine wpAnyH_ready (rs := [11]) (by kernel_rfl) (by simp) (AllReadyH.cons rfl (fun KK hKK => ?_) AllReadyH.nil)
  go_simp
  refine (clonemo_any (c := K.c4) _ (hK.out.crs.fr (fr_nil HF.out HG3.out) fun _ _ => id) (by have := hK.out.b4; omega)).mono ?_
  rintro e v4 ⟨B4, e4, rfl, o4, fv⟩
  have HO4 := Lib.hid o4
  have HB4 := Lib.hid HG3.out.size
  have HD34 : Hid (∀ k, blk B3 = some k → blk B4 ≠ some k) := Lib.hid fun k e1 e2 => by
    have a := (World.ownsRow.lt HO3.out k (by rw [own_blk]; exact e1)).2
    have b := (World.ownsRow.lt o4 k (by rw [own_blk]; exact e2)).1
    omega
  have HO1 := Lib.hid (wide_fr HO1.out fv fun _ _ => id)
  have HO2 := Lib.hid (wide_fr HO2.out fv fun _ _ => id)
  have HO3 := Lib.hid (wide_fr HO3.out fv fun _ _ => id)
  have HG4 := Lib.hid (fr_nil HG3.out fv)
  clear fv o4
  go_simp
  refine hKK.out _ _ (HS.out _ (HG4.out.mono fun _ _ h => h.elim)) (fun hHeld => ?_)
  clear hKK KK
  refine wpAnyH_ready (rs := [14]) (by kernel_rfl) (by simp) (AllReadyH.cons rfl (fun KK hKK => ?_) AllReadyH.nil)
  go_simp
  refine (cloneln_any (c := K.c5) _ (hK.out.lns.fr (fr_nil HF.out HG4.out) fun _ _ => id) (by have := hK.out.b5; omega)).mono ?_
  rintro e v5 ⟨B5, e5, rfl, o5, fv⟩
  have HO5 := Lib.hid o5
  have HB5 := Lib.hid HG4.out.size
  have HO1 := Lib.hid (wide_fr HO1.out fv fun _ _ => id)
  have HO2 := Lib.hid (wide_fr HO2.out fv fun _ _ => id)
  have HO3 := Lib.hid (wide_fr HO3.out fv fun _ _ => id)
  have HO4 := Lib.hid (wide_fr HO4.out fv fun _ _ => id)
  have HG5 := Lib.hid (fr_nil HG4.out fv)
  clear fv o5
  go_simp
  refine hKK.out _ _ (HS.out _ (HG5.out.mono fun _ _ h => h.elim)) (fun hHeld => ?_)
  clear hKK KK
  refine wpAnyH_ready (rs := [17]) (by kernel_rfl) (by simp) (AllReadyH.cons rfl (fun KK hKK => ?_) AllReadyH.nil)
  go_simp
  refine (clone_any (c := K.c6) _ (hK.out.rss.fr (fr_nil HF.out HG5.out) fun _ _ => id) (by have := hK.out.b6; omega)).mono ?_
  rintro e v6 ⟨B6, e6, rfl, o6, fv⟩
  have HO6 := Lib.hid o6
  have HB6 := Lib.hid HG5.out.size
  have HD16 : Hid (∀ k, blk B1 = some k → blk B6 ≠ some k) := Lib.hid fun k e1 e2 => by
    have a := (World.ownsRow.lt HO1.out k (by rw [own_blk]; exact e1)).2
    have b := (World.ownsRow.lt o6 k (by rw [own_blk]; exact e2)).1
    omega
  have HO1 := Lib.hid (wide_fr HO1.out fv fun _ _ => id)
  have HO2 := Lib.hid (wide_fr HO2.out fv fun _ _ => id)
  have HO3 := Lib.hid (wide_fr HO3.out fv fun _ _ => id)
  have HO4 := Lib.hid (wide_fr HO4.out fv fun _ _ => id)
  have HO5 := Lib.hid (wide_fr HO5.out fv fun _ _ => id)
  have HG6 := Lib.hid (fr_nil HG5.out fv)
  clear fv o6
  go_simp
  refine hKK.out _ _ (HS.out _ (HG6.out.mono fun _ _ h => h.elim)) (fun hHeld => ?_)
  clear hKK KK
  refine wpAnyH_take (i := 20) (oi := { dst := some 23, op := _, type := _, pos := _, after := _, guard := _ }) (v := ?_) rfl (by kernel_rfl) (by kernel_rfl) (by kernel_rfl) (fun _ _ _ h => h) (Or.inl ⟨by rfl, ?_⟩) (by assumption) ?_
  rotate_left
  · intro Wx hSw
    try dsimp only at hSw
    go_simp
    try with_reducible rfl
  try simp only [Act.put, List.setIfInBounds_toArray, List.set_cons_zero, List.set_cons_succ]
  have isr := HIR.out.fr HG6.out id
  obtain ⟨m0, m1, m2, m3, m4, m5, m6⟩ := seven isr
  have z0 := isr.frozen 0
  have z1 := isr.frozen 1
  have z2 := isr.frozen 2
  have z3 := isr.frozen 3
  have z4 := isr.frozen 4
  have z5 := isr.frozen 5
  have z6 := isr.frozen 6
  refine wpAnyH_ready (rs := [21]) (by kernel_rfl) (by simp) (AllReadyH.cons rfl (fun KK hKK => ?_) AllReadyH.nil)
  go_simp
  refine hKK.out _ _ (HS.out _ ((((((((HG6.out.mono (S' := fun q => q = w.heap.size + 1) fun _ _ h => h.elim).setCell (p := ⟨w.heap.size + 1, 0, none⟩) (.inl rfl) (.slice B1 K.own.length e1)).setCell (p := ⟨w.heap.size + 1, 1, none⟩) (.inl rfl) (.slice B2 K.rts.length e2)).setCell (p := ⟨w.heap.size + 1, 2, none⟩) (.inl rfl) (.slice B3 K.pts.length e3)).setCell (p := ⟨w.heap.size + 1, 3, none⟩) (.inl rfl) (.slice B4 K.crs.length e4)).setCell (p := ⟨w.heap.size + 1, 4, none⟩) (.inl rfl) (.slice B5 K.lns.length e5)).setCell (p := ⟨w.heap.size + 1, 5, none⟩) (.inl rfl) (.slice B6 K.rss.length e6)).setCell (p := ⟨w.heap.size + 1, 6, none⟩) (.inl rfl) (.bool K.dirty))) (fun hHeld => ?_)
  clear hKK KK
  refine wpAnyH_done (by kernel_rfl) ?_ _

  have isR := (((((((isr.set 0 (.slice B1 K.own.length e1)).set 1 (.slice B2 K.rts.length e2)).set 2 (.slice B3 K.pts.length e3)).set 3 (.slice B4 K.crs.length e4)).set 4 (.slice B5 K.lns.length e5)).set 5 (.slice B6 K.rss.length e6)).set 6 (.bool K.dirty))
  have fR := ((((((((HG6.out.mono (S' := fun q => q = w.heap.size + 1) fun _ _ h => h.elim).setCell (p := ⟨w.heap.size + 1, 0, none⟩) (.inl rfl) (.slice B1 K.own.length e1)).setCell (p := ⟨w.heap.size + 1, 1, none⟩) (.inl rfl) (.slice B2 K.rts.length e2)).setCell (p := ⟨w.heap.size + 1, 2, none⟩) (.inl rfl) (.slice B3 K.pts.length e3)).setCell (p := ⟨w.heap.size + 1, 3, none⟩) (.inl rfl) (.slice B4 K.crs.length e4)).setCell (p := ⟨w.heap.size + 1, 4, none⟩) (.inl rfl) (.slice B5 K.lns.length e5)).setCell (p := ⟨w.heap.size + 1, 5, none⟩) (.inl rfl) (.slice B6 K.rss.length e6)).setCell (p := ⟨w.heap.size + 1, 6, none⟩) (.inl rfl) (.bool K.dirty))
  have f6 := ((((((((Fr.refl (fun q => q = w.heap.size + 1) v6).setCell (p := ⟨w.heap.size + 1, 0, none⟩) (.inl rfl) (.slice B1 K.own.length e1)).setCell (p := ⟨w.heap.size + 1, 1, none⟩) (.inl rfl) (.slice B2 K.rts.length e2)).setCell (p := ⟨w.heap.size + 1, 2, none⟩) (.inl rfl) (.slice B3 K.pts.length e3)).setCell (p := ⟨w.heap.size + 1, 3, none⟩) (.inl rfl) (.slice B4 K.crs.length e4)).setCell (p := ⟨w.heap.size + 1, 4, none⟩) (.inl rfl) (.slice B5 K.lns.length e5)).setCell (p := ⟨w.heap.size + 1, 5, none⟩) (.inl rfl) (.slice B6 K.rss.length e6)).setCell (p := ⟨w.heap.size + 1, 6, none⟩) (.inl rfl) (.bool K.dirty))
  simp only [List.setIfInBounds_toArray, List.set_cons_zero, List.set_cons_succ] at isR
  generalize hW : World.setCell _ _ _ = W at *
  have c0 := isR.cell 0
  have c1 := isR.cell 1
  have c2 := isR.cell 2
  have c3 := isR.cell 3
  have c4 := isR.cell 4
  have c5 := isR.cell 5
  have c6 := isR.cell 6
  have HOW : (⟨B1, e1, K.own, B2, e2, K.rts, B3, e3, K.pts, B4, e4, K.crs, B5, e5, K.lns, B6, e6, K.rss, K.dirty⟩ : Km).Own w.heap.size W := ⟨own_base (wide_fr HO1.out f6 fun k hk e => by have a := (World.ownsRow.lt HO1.out k hk).1; have b := HB1.out; (try simp only [World.size_drew] at a); (try simp only [World.size_drew] at b); omega) (by have b := HB1.out; (try simp only [World.size_drew] at b); (try simp only [World.size_drew]); omega), own_base (wide_fr HO2.out f6 fun k hk e => by have a := (World.ownsRow.lt HO2.out k hk).1; have b := HB2.out; (try simp only [World.size_drew] at a); (try simp only [World.size_drew] at b); omega) (by have b := HB2.out; (try simp only [World.size_drew] at b); (try simp only [World.size_drew]); omega), own_base (wide_fr HO3.out f6 fun k hk e => by have a := (World.ownsRow.lt HO3.out k hk).1; have b := HB3.out; (try simp only [World.size_drew] at a); (try simp only [World.size_drew] at b); omega) (by have b := HB3.out; (try simp only [World.size_drew] at b); (try simp only [World.size_drew]); omega), own_base (wide_fr HO4.out f6 fun k hk e => by have a := (World.ownsRow.lt HO4.out k hk).1; have b := HB4.out; (try simp only [World.size_drew] at a); (try simp only [World.size_drew] at b); omega) (by have b := HB4.out; (try simp only [World.size_drew] at b); (try simp only [World.size_drew]); omega), own_base (wide_fr HO5.out f6 fun k hk e => by have a := (World.ownsRow.lt HO5.out k hk).1; have b := HB5.out; (try simp only [World.size_drew] at a); (try simp only [World.size_drew] at b); omega) (by have b := HB5.out; (try simp only [World.size_drew] at b); (try simp only [World.size_drew]); omega), own_base (wide_fr HO6.out f6 fun k hk e => by have a := (World.ownsRow.lt HO6.out k hk).1; have b := HB6.out; (try simp only [World.size_drew] at a); (try simp only [World.size_drew] at b); omega) (by have b := HB6.out; (try simp only [World.size_drew] at b); (try simp only [World.size_drew]); omega), HD16.out, HD34.out⟩
  have FW : Fr (fun _ => False) w W := HF.out.trans fR fun k hk e => by omega
  go_wp2_with fail
  refine bodyPost_ret (v := (⟨B1, e1, K.own, B2, e2, K.rts, B3, e3, K.pts, B4, e4, K.crs, B5, e5, K.lns, B6, e6, K.rss, K.dirty⟩ : Km).val) ?_ rfl ⟨_, rfl, rfl, HOW, FW⟩
  unfold Km.val Km.arr
  simp [results, Try.results17, go_sem, c0, c1, c2, c3, c4, c5, c6]
end Go.Proofs.Ytnnacdkijeoeoaa.Lk

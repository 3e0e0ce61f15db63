/- The contract of Shape: which elements a controller has. -/
import Derived.Test.YtmohefkingnknaaTnumt
import Derived.Test.YtmohefkingnknaaTlives
import Derived.Test.YtmohefkingnknaaTrefr
import Derived.Deep.RegionHeld3
namespace Go.Proofs.Ytmohefkingnknaa.Te
open Go.RowKit

/-- the document's shape of a controller -/
def shL (C : Cf) (oc : Int) : St := ⟨idx (inB oc) 0 C.l, idx (ptB oc) 0 C.l, idx (hasB C.l oc) 0 C.cr, idx (sgB C.l oc) 0 C.sg⟩

def Ret (W : World) (T : List Int) (e : Ending) (w' : World) : Prop := ∃ (A : Option Addr) (l : List Int) (c : Nat), e = .returned (.slice A l.length c) ∧ l = T ∧ (L3.mk A l c).Ok w' ∧ (∀ q, blk A = some q → W.heap.size ≤ q ∧ q < w'.heap.size) ∧ Fr (fun _ => False) W w'
theorem ret_of {W : World} {T : List Int} {e : Ending} {w' : World} (h : ∃ x : L3, e = .returned x.val ∧ x.l = T ∧ x.Ok w' ∧ (∀ q, blk x.A = some q → W.heap.size ≤ q ∧ q < w'.heap.size) ∧ Fr (fun _ => False) W w') : Ret W T e w' := by
  obtain ⟨x, he, hl, ok, hn, F⟩ := h
  exact ⟨x.A, x.l, x.c, he, hl, ok, hn, F⟩
set_option maxHeartbeats 2000000 in
set_option maxRecDepth 100000 in
theorem shape_any {w : World} {C : Cf} (hC : C.Ok w) (oc : Int) :
    Calls Try.prog 23 #[C.val, .int .i64 oc] w fun e w' => ∃ x : Sta, e = .returned x.val ∧ x.st = shL C oc ∧ x.Ok w' ∧ x.New w.heap.size ∧ Fr (fun _ => False) w w' := by
  have hmf : ∀ (fn : Fn) (first cap : Array Value) (w : World), (Instr.makeFunc fn first cap).run Try.prog w = .ok (.func fn first cap) w := fun _ _ _ _ => rfl
  obtain ⟨wA, hwA⟩ : ∃ wA, wA = (((w.alloc (.cells C.cells.toArray 55)).alloc (.cells #[.int .i64 oc] 3)).alloc (.cells #[.slice none 0 0, .slice none 0 0, .slice none 0 0, .slice none 0 0] 24)).alloc (.cells (C.ctl oc).toArray 93) := ⟨_, rfl⟩
  have fA : Fr (fun _ => False) w wA := by rw [hwA]; exact ((((Fr.refl _ w).alloc _).alloc _).alloc _).alloc _
  have i0 : Is wA w.heap.size 55 C.cells.toArray := by rw [hwA]; exact (((Is.new _ _ _).alloc _).alloc _).alloc _
  have i1 : Is wA (w.heap.size + 1) 3 #[.int .i64 oc] := by
    rw [hwA]
    have := Is.new (w.alloc (.cells C.cells.toArray 55)) 3 #[.int .i64 oc]
    simp only [World.size_alloc] at this
    exact (this.alloc _).alloc _
  have i2 : Is wA (w.heap.size + 2) 24 #[.slice none 0 0, .slice none 0 0, .slice none 0 0, .slice none 0 0] := by
    rw [hwA]
    have := Is.new ((w.alloc (.cells C.cells.toArray 55)).alloc (.cells #[.int .i64 oc] 3)) 24 #[.slice none 0 0, .slice none 0 0, .slice none 0 0, .slice none 0 0]
    simp only [World.size_alloc] at this
    exact this.alloc _
  have i3 : Is wA (w.heap.size + 3) 93 (C.ctl oc).toArray := by
    rw [hwA]
    have := Is.new (((w.alloc (.cells C.cells.toArray 55)).alloc (.cells #[.int .i64 oc] 3)).alloc (.cells #[.slice none 0 0, .slice none 0 0, .slice none 0 0, .slice none 0 0] 24)) 93 (C.ctl oc).toArray
    simp only [World.size_alloc] at this
    exact this
  have hCA := hC.fr fA
  have N1 := fun (W : World) (f : Fr (fun _ => False) wA W) => (nums1_any (c := C.c1) ((i1.fr f id).cell 0) (hCA.secs.fr f fun _ _ => id) hCA.b1).mono fun e w' h => (ret_of h : Ret W (idx (inB oc) 0 C.l) e w')
  have N2 := fun (W : World) (f : Fr (fun _ => False) wA W) => (nums2_any (c := C.c1) ((i1.fr f id).cell 0) (hCA.secs.fr f fun _ _ => id) hCA.b1).mono fun e w' h => (ret_of h : Ret W (idx (ptB oc) 0 C.l) e w')
  have N3 := fun (W : World) (f : Fr (fun _ => False) wA W) => (nums3_any (c := C.c4) (hCA.secs.fr f fun _ _ => id) hCA.b1 oc (hCA.crs.fr f fun _ _ => id) hCA.b4).mono fun e w' h => (ret_of h : Ret W (idx (hasB C.l oc) 0 C.cr) e w')
  have N4 := fun (W : World) (f : Fr (fun _ => False) wA W) => (nums4_any (c := C.c3) (i3.fr f id) (hCA.secs.fr f fun _ _ => id) hCA.b1 (hCA.sigs.fr f fun _ _ => id) hCA.b3).mono fun e w' h => (ret_of h : Ret W (idx (sgB C.l oc) 0 C.sg) e w')
  have hT : shL C oc = ⟨idx (inB oc) 0 C.l, idx (ptB oc) 0 C.l, idx (hasB C.l oc) 0 C.cr, idx (sgB C.l oc) 0 C.sg⟩ := rfl
  rw [hT]
  clear hT hC hCA
  generalize idx (inB oc) 0 C.l = T1 at *
  generalize idx (ptB oc) 0 C.l = T2 at *
  generalize idx (hasB C.l oc) 0 C.cr = T3 at *
  generalize idx (sgB C.l oc) 0 C.sg = T4 at *
  obtain ⟨A1, c1, l, A2, n2, c2, A3, c3, sg, A4, c4, cr, A5, n5, c5, ⟨ta, tb, th, tu⟩⟩ := C
  unfold Cf.val
  unfold Cf.ctl Cf.cells at *
  simp only [List.cons_append, List.nil_append] at *
  have HWA := Lib.hid hwA
  have HFA := Lib.hid fA
  have HI2 := Lib.hid i2
  have HI0 := Lib.hid i0
  have HI3 := Lib.hid i3
  have sl : ∀ (U : World), Fr (fun k => k = w.heap.size + 2) wA U → (U.cell? ⟨w.heap.size, 0, none⟩ = some (.slice A1 l.length c1) ∧ U.cell? ⟨w.heap.size, 2, none⟩ = some (.slice A3 sg.length c3) ∧ U.cell? ⟨w.heap.size, 3, none⟩ = some (.slice A4 cr.length c4)) ∧ U.cell? ⟨w.heap.size + 3, 0, none⟩ = some (.slice A1 l.length c1) ∧ U.cell? ⟨w.heap.size + 3, 1, none⟩ = some (.slice A2 n2 c2) ∧ U.cell? ⟨w.heap.size + 3, 2, none⟩ = some (.slice A3 sg.length c3) ∧ U.cell? ⟨w.heap.size + 3, 3, none⟩ = some (.slice A4 cr.length c4) ∧ U.cell? ⟨w.heap.size + 3, 4, none⟩ = some (.slice A5 n5 c5) ∧ U.cell? ⟨w.heap.size + 3, 5, none⟩ = some (.int .i64 ta) ∧ U.cell? ⟨w.heap.size + 3, 6, none⟩ = some (.int .i64 tb) ∧ U.cell? ⟨w.heap.size + 3, 7, none⟩ = some (.int .i64 th) ∧ U.cell? ⟨w.heap.size + 3, 8, none⟩ = some (.int .i64 tu) ∧ U.cell? ⟨w.heap.size + 3, 9, none⟩ = some (.int .i64 oc)   := fun U F => by
    have j0 := HI0.out.fr F (by omega)
    have j3 := HI3.out.fr F (by omega)
    exact ⟨⟨j0.cell 0, j0.cell 2, j0.cell 3⟩, ten_cells9 j3⟩
  have SLH := Lib.hid sl
  clear hwA fA i0 i1 i2 i3 sl
  go_enter Try.func23, Try.ntmps23
  go_wp2_with fail
  rw [← HWA.out]
  have g0 : Fr (fun _ => False) wA wA.drew := (Fr.refl _ wA).drew
  refine wp_region_held_drew (S := fun Wx => (Wx.cell? ⟨w.heap.size, 0, none⟩ = some (.slice A1 l.length c1) ∧ Wx.cell? ⟨w.heap.size, 2, none⟩ = some (.slice A3 sg.length c3) ∧ Wx.cell? ⟨w.heap.size, 3, none⟩ = some (.slice A4 cr.length c4)) ∧ Wx.cell? ⟨w.heap.size + 3, 0, none⟩ = some (.slice A1 l.length c1) ∧ Wx.cell? ⟨w.heap.size + 3, 1, none⟩ = some (.slice A2 n2 c2) ∧ Wx.cell? ⟨w.heap.size + 3, 2, none⟩ = some (.slice A3 sg.length c3) ∧ Wx.cell? ⟨w.heap.size + 3, 3, none⟩ = some (.slice A4 cr.length c4) ∧ Wx.cell? ⟨w.heap.size + 3, 4, none⟩ = some (.slice A5 n5 c5) ∧ Wx.cell? ⟨w.heap.size + 3, 5, none⟩ = some (.int .i64 ta) ∧ Wx.cell? ⟨w.heap.size + 3, 6, none⟩ = some (.int .i64 tb) ∧ Wx.cell? ⟨w.heap.size + 3, 7, none⟩ = some (.int .i64 th) ∧ Wx.cell? ⟨w.heap.size + 3, 8, none⟩ = some (.int .i64 tu) ∧ Wx.cell? ⟨w.heap.size + 3, 9, none⟩ = some (.int .i64 oc)) (by kernel_rfl) (SLH.out _ (g0.mono fun _ _ h => h.elim)) (fun hHeld => ?_)
  refine wpAnyH_take (i := 0) (v := ?_) rfl (by kernel_rfl) (by kernel_rfl) (by kernel_rfl) (fun _ _ _ h => h) (Or.inl ⟨by rfl, ?_⟩) (by assumption) ?_
  rotate_left
  · intro Wx hSw
    try dsimp only at hSw
    go_simp
    try with_reducible rfl
  try simp only [Act.put]
  refine wpAnyH_take (i := 1) (v := ?_) rfl (by kernel_rfl) (by kernel_rfl) (by kernel_rfl) (fun _ _ _ h => h) (Or.inl ⟨by rfl, ?_⟩) (by assumption) ?_
  rotate_left
  · intro Wx hSw
    try dsimp only at hSw
    go_simp
    try with_reducible rfl
  try simp only [Act.put]
  refine wpAnyH_take (i := 4) (v := ?_) rfl (by kernel_rfl) (by kernel_rfl) (by kernel_rfl) (fun _ _ _ h => h) (Or.inl ⟨by rfl, ?_⟩) (by assumption) ?_
  rotate_left
  · intro Wx hSw
    try dsimp only at hSw
    go_simp
    try with_reducible rfl
  try simp only [Act.put]
  refine wpAnyH_take (i := 5) (v := ?_) rfl (by kernel_rfl) (by kernel_rfl) (by kernel_rfl) (fun _ _ _ h => h) (Or.inl ⟨by rfl, ?_⟩) (by assumption) ?_
  rotate_left
  · intro Wx hSw
    try dsimp only at hSw
    go_simp
    try with_reducible rfl
  try simp only [Act.put]
  refine wpAnyH_take (i := 8) (v := ?_) rfl (by kernel_rfl) (by kernel_rfl) (by kernel_rfl) (fun _ _ _ h => h) (Or.inl ⟨by rfl, ?_⟩) (by assumption) ?_
  rotate_left
  · intro Wx hSw
    try dsimp only at hSw
    go_simp
    try with_reducible rfl
  try simp only [Act.put]
  refine wpAnyH_take (i := 9) (v := ?_) rfl (by kernel_rfl) (by kernel_rfl) (by kernel_rfl) (fun _ _ _ h => h) (Or.inl ⟨by rfl, ?_⟩) (by assumption) ?_
  rotate_left
  · intro Wx hSw
    try dsimp only at hSw
    go_simp
    try with_reducible rfl
  try simp only [Act.put]
  refine wpAnyH_take (i := 10) (v := ?_) rfl (by kernel_rfl) (by kernel_rfl) (by kernel_rfl) (fun _ _ _ h => h) (Or.inl ⟨by rfl, ?_⟩) (by assumption) ?_
  rotate_left
  · intro Wx hSw
    try dsimp only at hSw
    go_simp
    try with_reducible rfl
  try simp only [Act.put]
  refine wpAnyH_take (i := 13) (v := ?_) rfl (by kernel_rfl) (by kernel_rfl) (by kernel_rfl) (fun _ _ _ h => h) (Or.inl ⟨by rfl, ?_⟩) (by assumption) ?_
  rotate_left
  · intro Wx hSw
    try dsimp only at hSw
    go_simp
    try with_reducible rfl
  try simp only [Act.put]
  refine wpAnyH_take (i := 14) (v := ?_) rfl (by kernel_rfl) (by kernel_rfl) (by kernel_rfl) (fun _ _ _ h => h) (Or.inl ⟨by rfl, ?_⟩) (by assumption) ?_
  rotate_left
  · intro Wx hSw
    try dsimp only at hSw
    go_simp
    try with_reducible rfl
  try simp only [Act.put]
  refine wpAnyH_take (i := 2) (v := ?_) rfl (by kernel_rfl) (by kernel_rfl) (by kernel_rfl) (fun _ _ _ h => h) (Or.inl ⟨by rfl, ?_⟩) (by assumption) ?_
  rotate_left
  · intro Wx hSw
    try dsimp only at hSw
    go_simp
    try with_reducible rfl
  try simp only [Act.put]
  refine wpAnyH_take (i := 6) (v := ?_) rfl (by kernel_rfl) (by kernel_rfl) (by kernel_rfl) (fun _ _ _ h => h) (Or.inl ⟨by rfl, ?_⟩) (by assumption) ?_
  rotate_left
  · intro Wx hSw
    try dsimp only at hSw
    go_simp
    try with_reducible rfl
  try simp only [Act.put]
  refine wpAnyH_take (i := 11) (v := ?_) rfl (by kernel_rfl) (by kernel_rfl) (by kernel_rfl) (fun _ _ _ h => h) (Or.inl ⟨by rfl, ?_⟩) (by assumption) ?_
  rotate_left
  · intro Wx hSw
    try dsimp only at hSw
    go_simp
    try with_reducible rfl
  try simp only [Act.put]
  refine wpAnyH_take (i := 15) (v := ?_) rfl (by kernel_rfl) (by kernel_rfl) (by kernel_rfl) (fun _ _ _ h => h) (Or.inl ⟨by rfl, ?_⟩) (by assumption) ?_
  rotate_left
  · intro Wx hSw
    try dsimp only at hSw
    go_simp
    try with_reducible rfl
  try simp only [Act.put]
  refine wpAnyH_ready (rs := [3]) (by kernel_rfl) (by simp) (AllReadyH.cons rfl (fun K hK => ?_) AllReadyH.nil)
  go_simp
  refine (N1 _ g0).mono ?_
  intro e u1 hret
  unfold Ret at hret
  obtain ⟨B1, m1, d1, rfl, e1, o1, n1, f1⟩ := hret
  have E1 := Lib.hid e1
  have O1 := Lib.hid o1
  have M1 := Lib.hid n1
  have H1 := Lib.hid f1
  have g1 := fr_nil g0 f1
  clear e1 o1 n1 f1 N1
  go_simp
  refine hK.out _ _ (SLH.out _ (g1.mono fun _ _ h => h.elim)) (fun hHeld => ?_)
  clear hK K
  refine wpAnyH_ready (rs := [7]) (by kernel_rfl) (by simp) (AllReadyH.cons rfl (fun K hK => ?_) AllReadyH.nil)
  go_simp
  refine (N2 _ g1).mono ?_
  intro e u2 hret
  unfold Ret at hret
  obtain ⟨B2, m2, d2, rfl, e2, o2, n2, f2⟩ := hret
  have E2 := Lib.hid e2
  have O2 := Lib.hid o2
  have M2 := Lib.hid n2
  have H2 := Lib.hid f2
  have g2 := fr_nil g1 f2
  clear e2 o2 n2 f2 N2
  go_simp
  refine hK.out _ _ (SLH.out _ (g2.mono fun _ _ h => h.elim)) (fun hHeld => ?_)
  clear hK K
  refine wpAnyH_ready (rs := [12]) (by kernel_rfl) (by simp) (AllReadyH.cons rfl (fun K hK => ?_) AllReadyH.nil)
  go_simp
  refine (N3 _ g2).mono ?_
  intro e u3 hret
  unfold Ret at hret
  obtain ⟨B3, m3, d3, rfl, e3, o3, n3, f3⟩ := hret
  have E3 := Lib.hid e3
  have O3 := Lib.hid o3
  have M3 := Lib.hid n3
  have H3 := Lib.hid f3
  have g3 := fr_nil g2 f3
  clear e3 o3 n3 f3 N3
  go_simp
  refine hK.out _ _ (SLH.out _ (g3.mono fun _ _ h => h.elim)) (fun hHeld => ?_)
  clear hK K
  refine wpAnyH_ready (rs := [16]) (by kernel_rfl) (by simp) (AllReadyH.cons rfl (fun K hK => ?_) AllReadyH.nil)
  go_simp
  refine (N4 _ g3).mono ?_
  intro e u4 hret
  unfold Ret at hret
  obtain ⟨B4, m4, d4, rfl, e4, o4, n4, f4⟩ := hret
  have E4 := Lib.hid e4
  have O4 := Lib.hid o4
  have M4 := Lib.hid n4
  have H4 := Lib.hid f4
  have g4 := fr_nil g3 f4
  clear e4 o4 n4 f4 N4
  go_simp
  refine hK.out _ _ (SLH.out _ (g4.mono fun _ _ h => h.elim)) (fun hHeld => ?_)
  clear hK K
  refine wpAnyH_take (i := 17) (v := ?_) rfl (by kernel_rfl) (by kernel_rfl) (by kernel_rfl) (fun _ _ _ h => h) (Or.inl ⟨by rfl, ?_⟩) (by assumption) ?_
  rotate_left
  · intro Wx hSw
    try dsimp only at hSw
    go_simp
    try with_reducible rfl
  try simp only [Act.put]
  have J4 := Lib.hid (HI2.out.fr g4 id)
  have z0 : u4.frozen? ⟨w.heap.size + 2, 0, none⟩ = false := J4.out.frozen 0
  have z1 : u4.frozen? ⟨w.heap.size + 2, 1, none⟩ = false := J4.out.frozen 1
  have z2 : u4.frozen? ⟨w.heap.size + 2, 2, none⟩ = false := J4.out.frozen 2
  have z3 : u4.frozen? ⟨w.heap.size + 2, 3, none⟩ = false := J4.out.frozen 3
  obtain ⟨k0, k1, k2, k3⟩ := four_cells J4.out
  have fz := ((((Fr.refl (fun k => k = w.heap.size + 2) u4).setCell (p := ⟨w.heap.size + 2, 0, none⟩) (.inl rfl) (.slice B1 m1.length d1)).setCell (p := ⟨w.heap.size + 2, 1, none⟩) (.inl rfl) (.slice B2 m2.length d2)).setCell (p := ⟨w.heap.size + 2, 2, none⟩) (.inl rfl) (.slice B3 m3.length d3)).setCell (p := ⟨w.heap.size + 2, 3, none⟩) (.inl rfl) (.slice B4 m4.length d4)
  have FZ := Lib.hid fz
  clear fz
  refine wpAnyH_ready (rs := [18]) (by kernel_rfl) (by simp) (AllReadyH.cons rfl (fun K hK => ?_) AllReadyH.nil)
  go_simp
  refine hK.out _ _ (SLH.out _ ((g4.mono fun _ _ h => h.elim).trans FZ.out fun _ _ h => h)) (fun hHeld => ?_)
  clear hK K
  refine wpAnyH_done (by kernel_rfl) ?_ _
  have i7 := (((J4.out.set 0 (.slice B1 m1.length d1)).set 1 (.slice B2 m2.length d2)).set 2 (.slice B3 m3.length d3)).set 3 (.slice B4 m4.length d4)
  have hz : w.heap.size + 4 ≤ wA.heap.size := HI3.out.lt
  have y0 : wA.heap.size = wA.drew.heap.size := rfl
  have y1 := H1.out.size
  have y2 := H2.out.size
  have y3 := H3.out.size
  have y4 := H4.out.size
  have q1 : ∀ q, blk B1 = some q → ¬ q = w.heap.size + 2 := fun q hq e => by have := (M1.out q hq).1; omega
  have q2 : ∀ q, blk B2 = some q → ¬ q = w.heap.size + 2 := fun q hq e => by have := (M2.out q hq).1; omega
  have q3 : ∀ q, blk B3 = some q → ¬ q = w.heap.size + 2 := fun q hq e => by have := (M3.out q hq).1; omega
  have q4 : ∀ q, blk B4 = some q → ¬ q = w.heap.size + 2 := fun q hq e => by have := (M4.out q hq).1; omega
  have ok1 := (((O1.out.fr H2.out fun _ _ => id).fr H3.out fun _ _ => id).fr H4.out fun _ _ => id).fr FZ.out q1
  have ok2 := ((O2.out.fr H3.out fun _ _ => id).fr H4.out fun _ _ => id).fr FZ.out q2
  have ok3 := (O3.out.fr H4.out fun _ _ => id).fr FZ.out q3
  have ok4 := O4.out.fr FZ.out q4
  have r1 : ∀ q, blk B1 = some q → w.heap.size ≤ q := fun q hq => by have := (M1.out q hq).1; omega
  have r2 : ∀ q, blk B2 = some q → w.heap.size ≤ q := fun q hq => by have := (M2.out q hq).1; omega
  have r3 : ∀ q, blk B3 = some q → w.heap.size ≤ q := fun q hq => by have := (M3.out q hq).1; omega
  have r4 : ∀ q, blk B4 = some q → w.heap.size ≤ q := fun q hq => by have := (M4.out q hq).1; omega
  have fin : Fr (fun _ => False) w ((((u4.setCell ⟨w.heap.size + 2, 0, none⟩ (.slice B1 m1.length d1)).setCell ⟨w.heap.size + 2, 1, none⟩ (.slice B2 m2.length d2)).setCell ⟨w.heap.size + 2, 2, none⟩ (.slice B3 m3.length d3)).setCell ⟨w.heap.size + 2, 3, none⟩ (.slice B4 m4.length d4)) := (fr_nil HFA.out g4).trans FZ.out (fun j hj e => by omega)
  clear FZ J4 z0 z1 z2 z3 k0 k1 k2 k3 hHeld q1 q2 q3 q4 O1 O2 O3 O4 M1 M2 M3 M4 H1 H2 H3 H4 g0 g1 g2 g3 g4 SLH HI0 HI2 HI3 HFA HWA
  generalize (((u4.setCell ⟨w.heap.size + 2, 0, none⟩ (.slice B1 m1.length d1)).setCell ⟨w.heap.size + 2, 1, none⟩ (.slice B2 m2.length d2)).setCell ⟨w.heap.size + 2, 2, none⟩ (.slice B3 m3.length d3)).setCell ⟨w.heap.size + 2, 3, none⟩ (.slice B4 m4.length d4) = W at *
  obtain ⟨v0, v1, v2, v3⟩ := four_cells i7
  go_wp2_with fail
  refine bodyPost_ret (v := .agg #[.slice B1 m1.length d1, .slice B2 m2.length d2, .slice B3 m3.length d3, .slice B4 m4.length d4]) (by simp [results, Try.results23, go_sem, v0, v1, v2, v3]) rfl ⟨⟨⟨B1, m1, d1⟩, ⟨B2, m2, d2⟩, ⟨B3, m3, d3⟩, ⟨B4, m4, d4⟩⟩, rfl, ?_, ⟨ok1, ok2, ok3, ok4⟩, ⟨r1, r2, r3, r4⟩, fin⟩
  unfold Sta.st
  rw [E1.out, E2.out, E3.out, E4.out]
end Go.Proofs.Ytmohefkingnknaa.Te

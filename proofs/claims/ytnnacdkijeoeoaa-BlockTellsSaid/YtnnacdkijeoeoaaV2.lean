import Derived.Test.YtnnacdkijeoeoaaV1
import Derived.Test.YtnnacdkijeoeoaaNe
import Derived.Test.YtnnacdkijeoeoaaLcop
import Derived.Test.YtnnacdkijeoeoaaLplain
import Derived.Test.YtnnacdkijeoeoaaLnew
import Derived.Test.YtnnacdkijeoeoaaLsml
/- Boxes at the beginning of the lines' calls; a state that is put into its result. -/
namespace Go.Proofs.Ytnnacdkijeoeoaa.Bk
open Go.RowKit Lk Nk

/-- a cycle of the lines -/
def bstepM (c : Cf) (v : Vp) (now : Int) (k : Kp) : Kp × Int :=
  if (fitsB c k && seesB c v) = false then (k, 21) else if tmB now = false then (k, 32) else (linesK c v now (!k.dirty) k 4, 0)
/-- it comes in memory of its own -/
def Out (w : World) (x : Kp × Int) (e : Ending) (w' : World) : Prop := ∃ K1 : Km, e = .returned (.tuple #[K1.val, .int .i64 x.2]) ∧ K1.kp = x.1 ∧ K1.Own w.heap.size w' ∧ Fr (fun _ => False) w w'
/-- three boxes -/
structure Bx3 (w : World) (z0 z1 z2 : Nat) (C : Cm) (K : Km) (V : Vm) : Prop where
  ic : Is w z0 30 #[.slice C.A1 C.l.length C.c1, .slice C.A2 C.js.length C.c2, .slice C.A3 C.sg.length C.c3, .slice C.A4 C.cr.length C.c4, .slice C.A5 C.rs.length C.c5, .int .i64 C.tm.age, .int .i64 C.tm.brake, .int .i64 C.tm.hold, .int .i64 C.tm.budget]
  ik : Is w z1 35 #[.slice K.A1 K.own.length K.c1, .slice K.A2 K.rts.length K.c2, .slice K.A3 K.pts.length K.c3, .slice K.A4 K.crs.length K.c4, .slice K.A5 K.lns.length K.c5, .slice K.A6 K.rss.length K.c6, .bool K.dirty]
  iv : Is w z2 40 #[.slice V.A1 V.occ.length V.c1, .slice V.A2 V.pos.length V.c2, .slice V.A3 V.shut.length V.c3, .slice V.A4 V.lamp.length V.c4]
theorem Bx3.fr {w w1 : World} {z0 z1 z2 : Nat} {C : Cm} {K : Km} {V : Vm} (h : Bx3 w z0 z1 z2 C K V) (f : Fr (fun _ => False) w w1) : Bx3 w1 z0 z1 z2 C K V := ⟨h.ic.fr f id, h.ik.fr f id, h.iv.fr f id⟩
theorem Bx3.cells {W : World} {z0 z1 z2 : Nat} {C : Cm} {K : Km} {V : Vm} (h : Bx3 W z0 z1 z2 C K V) : W.cell? ⟨z0, 0, none⟩ = some (.slice C.A1 C.l.length C.c1) ∧ W.cell? ⟨z0, 1, none⟩ = some (.slice C.A2 C.js.length C.c2) ∧ W.cell? ⟨z0, 2, none⟩ = some (.slice C.A3 C.sg.length C.c3) ∧ W.cell? ⟨z0, 3, none⟩ = some (.slice C.A4 C.cr.length C.c4) ∧ W.cell? ⟨z0, 4, none⟩ = some (.slice C.A5 C.rs.length C.c5) ∧ W.cell? ⟨z0, 5, none⟩ = some (.int .i64 C.tm.age) ∧ W.cell? ⟨z0, 6, none⟩ = some (.int .i64 C.tm.brake) ∧ W.cell? ⟨z0, 7, none⟩ = some (.int .i64 C.tm.hold) ∧ W.cell? ⟨z0, 8, none⟩ = some (.int .i64 C.tm.budget) ∧ W.cell? ⟨z1, 0, none⟩ = some (.slice K.A1 K.own.length K.c1) ∧ W.cell? ⟨z1, 1, none⟩ = some (.slice K.A2 K.rts.length K.c2) ∧ W.cell? ⟨z1, 2, none⟩ = some (.slice K.A3 K.pts.length K.c3) ∧ W.cell? ⟨z1, 3, none⟩ = some (.slice K.A4 K.crs.length K.c4) ∧ W.cell? ⟨z1, 4, none⟩ = some (.slice K.A5 K.lns.length K.c5) ∧ W.cell? ⟨z1, 5, none⟩ = some (.slice K.A6 K.rss.length K.c6) ∧ W.cell? ⟨z1, 6, none⟩ = some (.bool K.dirty) ∧ W.cell? ⟨z2, 0, none⟩ = some (.slice V.A1 V.occ.length V.c1) ∧ W.cell? ⟨z2, 1, none⟩ = some (.slice V.A2 V.pos.length V.c2) ∧ W.cell? ⟨z2, 2, none⟩ = some (.slice V.A3 V.shut.length V.c3) ∧ W.cell? ⟨z2, 3, none⟩ = some (.slice V.A4 V.lamp.length V.c4) :=
  ⟨h.ic.cell 0, h.ic.cell 1, h.ic.cell 2, h.ic.cell 3, h.ic.cell 4, h.ic.cell 5, h.ic.cell 6, h.ic.cell 7, h.ic.cell 8, h.ik.cell 0, h.ik.cell 1, h.ik.cell 2, h.ik.cell 3, h.ik.cell 4, h.ik.cell 5, h.ik.cell 6, h.iv.cell 0, h.iv.cell 1, h.iv.cell 2, h.iv.cell 3⟩
theorem bx3_new (w : World) (C : Cm) (K : Km) (V : Vm) : Bx3 (((w.alloc (.cells C.arr 30)).alloc (.cells K.arr 35)).alloc (.cells V.arr 40)) w.heap.size (w.heap.size + 1) (w.heap.size + 1 + 1) C K V := by
  have f1 := (Fr.refl (fun _ => False) (w.alloc (.cells C.arr 30))).alloc (.cells K.arr 35)
  have f2 := (Fr.refl (fun _ => False) ((w.alloc (.cells C.arr 30)).alloc (.cells K.arr 35))).alloc (.cells V.arr 40)
  have a := (Is.new w 30 C.arr).fr (f1.trans f2 fun _ _ e => e) id
  have b := (Is.new (w.alloc (.cells C.arr 30)) 35 K.arr).fr f2 id
  have d := Is.new ((w.alloc (.cells C.arr 30)).alloc (.cells K.arr 35)) 40 V.arr
  simp only [World.size_alloc] at b d
  exact ⟨a, b, d⟩
theorem put_box {v9 : World} {zb : Nat} {x0 x1 x2 x3 x4 x5 x6 : Value} (isr : Is v9 zb 35 #[x0, x1, x2, x3, x4, x5, x6]) (K2 : Km) : ∃ W, (((((((v9.setCell ⟨zb, 0, none⟩ (.slice K2.A1 K2.own.length K2.c1)).setCell ⟨zb, 1, none⟩ (.slice K2.A2 K2.rts.length K2.c2)).setCell ⟨zb, 2, none⟩ (.slice K2.A3 K2.pts.length K2.c3)).setCell ⟨zb, 3, none⟩ (.slice K2.A4 K2.crs.length K2.c4)).setCell ⟨zb, 4, none⟩ (.slice K2.A5 K2.lns.length K2.c5)).setCell ⟨zb, 5, none⟩ (.slice K2.A6 K2.rss.length K2.c6)).setCell ⟨zb, 6, none⟩ (.bool K2.dirty)) = W ∧ Is W zb 35 K2.arr ∧ Fr (fun q => q = zb) v9 W := by
  have isR := (((((((isr.set 0 (.slice K2.A1 K2.own.length K2.c1)).set 1 (.slice K2.A2 K2.rts.length K2.c2)).set 2 (.slice K2.A3 K2.pts.length K2.c3)).set 3 (.slice K2.A4 K2.crs.length K2.c4)).set 4 (.slice K2.A5 K2.lns.length K2.c5)).set 5 (.slice K2.A6 K2.rss.length K2.c6)).set 6 (.bool K2.dirty))
  have fR := ((((((((Fr.refl (fun q => q = zb) v9).setCell (p := ⟨zb, 0, none⟩) (.inl rfl) (.slice K2.A1 K2.own.length K2.c1)).setCell (p := ⟨zb, 1, none⟩) (.inl rfl) (.slice K2.A2 K2.rts.length K2.c2)).setCell (p := ⟨zb, 2, none⟩) (.inl rfl) (.slice K2.A3 K2.pts.length K2.c3)).setCell (p := ⟨zb, 3, none⟩) (.inl rfl) (.slice K2.A4 K2.crs.length K2.c4)).setCell (p := ⟨zb, 4, none⟩) (.inl rfl) (.slice K2.A5 K2.lns.length K2.c5)).setCell (p := ⟨zb, 5, none⟩) (.inl rfl) (.slice K2.A6 K2.rss.length K2.c6)).setCell (p := ⟨zb, 6, none⟩) (.inl rfl) (.bool K2.dirty))
  simp only [List.setIfInBounds_toArray, List.set_cons_zero, List.set_cons_succ] at isR
  exact ⟨_, rfl, isR, fR⟩
theorem core7 {w : World} {b : Nat} {K : Km} (h : Is w b 35 K.arr) : w.cell? ⟨b, 0, none⟩ = some (.slice K.A1 K.own.length K.c1) ∧ w.cell? ⟨b, 1, none⟩ = some (.slice K.A2 K.rts.length K.c2) ∧ w.cell? ⟨b, 2, none⟩ = some (.slice K.A3 K.pts.length K.c3) ∧ w.cell? ⟨b, 3, none⟩ = some (.slice K.A4 K.crs.length K.c4) ∧ w.cell? ⟨b, 4, none⟩ = some (.slice K.A5 K.lns.length K.c5) ∧ w.cell? ⟨b, 5, none⟩ = some (.slice K.A6 K.rss.length K.c6) ∧ w.cell? ⟨b, 6, none⟩ = some (.bool K.dirty) :=
  ⟨h.cell 0, h.cell 1, h.cell 2, h.cell 3, h.cell 4, h.cell 5, h.cell 6⟩
end Go.Proofs.Ytnnacdkijeoeoaa.Bk
/- The program's Step of lines: a state, or an error (written by gen/bstep.py). -/
namespace Go.Proofs.Ytnnacdkijeoeoaa.Bk
open Go.RowKit Lk Nk

set_option maxRecDepth 100000 in
set_option maxHeartbeats 16000000 in
theorem bstep_any {C : Cm} {K : Km} {V : Vm} {w : World} (hC : C.Ok w) (hK : K.Ok w) (hV : V.Ok w) (now : Int) :
    Calls Try.prog 7 #[C.val, K.val, V.val, .int .i64 now] w (Out w (bstepM C.cf V.vp now K.kp)) := by
  have KF := fun (W : World) (f : Fr (fun _ => False) w W) => fits_any C K W (hC.fr f) (hK.fr f)
  have KS := fun (W : World) => sees_any C V W
  have KC := fun (W : World) (f : Fr (fun _ => False) w W) => copied_any K W (hK.fr f)
  have h3 := bx3_new w C K V
  have f3 := (((Fr.refl (fun _ => False) w).alloc (.cells C.arr 30)).alloc (.cells K.arr 35)).alloc (.cells V.arr 40)
  have i3 := Is.new (((w.alloc (.cells C.arr 30)).alloc (.cells K.arr 35)).alloc (.cells V.arr 40)) 35 #[.slice none 0 0, .slice none 0 0, .slice none 0 0, .slice none 0 0, .slice none 0 0, .slice none 0 0, .bool false]
  have h3 := h3.fr ((Fr.refl (fun _ => False) _).alloc (.cells #[.slice none 0 0, .slice none 0 0, .slice none 0 0, .slice none 0 0, .slice none 0 0, .slice none 0 0, .bool false] 35))
  have f3 := f3.alloc (.cells #[.slice none 0 0, .slice none 0 0, .slice none 0 0, .slice none 0 0, .slice none 0 0, .slice none 0 0, .bool false] 35)
  have hsz : ((((w.alloc (.cells C.arr 30)).alloc (.cells K.arr 35)).alloc (.cells V.arr 40)).alloc (.cells #[.slice none 0 0, .slice none 0 0, .slice none 0 0, .slice none 0 0, .slice none 0 0, .slice none 0 0, .bool false] 35)).heap.size = w.heap.size + 4 := by simp
  simp only [World.size_alloc] at i3
  have HC := Lib.hid hC
  have HV := Lib.hid hV
  have HKF := Lib.hid KF
  have HKS := Lib.hid KS
  have HKC := Lib.hid KC
  have HF0 := Lib.hid f3
  have H30 := Lib.hid h3
  have HI0 := Lib.hid i3
  have HZ0 := Lib.hid hsz
  generalize hT : bstepM C.cf V.vp now K.kp = T
  have HT := Lib.hid hT
  clear hC hK hV KF KS KC f3 h3 i3 hsz hT
  unfold Cm.val Km.val Vm.val Cm.arr Km.arr Vm.arr at *
  go_enter Try.func7, Try.ntmps7
  go_upto_region 1 with fail
  generalize ((((w.alloc _).alloc _).alloc _).alloc _) = w1 at *
  obtain ⟨p0, p1, p2, p3, p4, p5, p6, p7, p8, k0, k1, k2, k3, k4, k5, k6, v0, v1, v2, v3⟩ := H30.out.cells
  go_wp2_with fail
  refine (HKF.out _ HF0.out).mono ?_
  rintro e w2 ⟨rfl, f2⟩
  have HF := Lib.hid (fr_nil HF0.out f2)
  have H3 := Lib.hid (H30.out.fr f2)
  have HI := Lib.hid (HI0.out.fr f2 id)
  have HZ : Hid (w.heap.size + 4 ≤ w2.heap.size) := Lib.hid (by have := f2.size; have := HZ0.out; omega)
  clear p0 p1 p2 p3 p4 p5 p6 p7 p8 k0 k1 k2 k3 k4 k5 k6 v0 v1 v2 v3 f2 H30 HI0 HF0 HZ0
  cases hok : fitsB C.cf K.kp
  · have HT2 : Hid (T = (K.kp, 21)) := Lib.hid (HT.out.symm.trans (if_pos (by rw [hok]; rfl)))
    clear hok
    obtain ⟨p0, p1, p2, p3, p4, p5, p6, p7, p8, k0, k1, k2, k3, k4, k5, k6, v0, v1, v2, v3⟩ := H3.out.cells
    clear p0 p1 p2 p3 p4 p5 p6 p7 p8 v0 v1 v2 v3
    go_wp2_with fail
    refine (HKC.out _ HF.out).mono ?_
    rintro _ v9 ⟨K2, rfl, hk2, o2, fv⟩
    have isr := HI.out.fr fv id
    obtain ⟨m0, m1, m2, m3, m4, m5, m6⟩ := seven isr
    have z0 := isr.frozen 0
    have z1 := isr.frozen 1
    have z2 := isr.frozen 2
    have z3 := isr.frozen 3
    have z4 := isr.frozen 4
    have z5 := isr.frozen 5
    have z6 := isr.frozen 6
    have HO2 := Lib.hid o2
    have HK2 := Lib.hid hk2
    have HF9 := Lib.hid (fr_nil HF.out fv)
    have HIR := Lib.hid isr
    clear k0 k1 k2 k3 k4 k5 k6 o2 hk2 fv isr
    unfold Km.val Km.arr
    go_wp2_with fail
    obtain ⟨W, hW, hiW, fR⟩ := put_box HIR.out K2
    obtain ⟨c0, c1, c2, c3, c4, c5, c6⟩ := core7 (K := K2) hiW
    rw [hW]
    clear hW m0 m1 m2 m3 m4 m5 m6 z0 z1 z2 z3 z4 z5 z6 hiW
    have hz2 := HZ.out
    have HOW : K2.Own w.heap.size W := (HO2.out.fr fR fun k hk e => by have := (HO2.out.lt k hk).1; omega).base (by omega)
    have FW : Fr (fun _ => False) w W := HF9.out.trans fR fun k hk e => by omega
    refine bodyPost_ret (v := .tuple #[K2.val, .int .i64 21]) ?_ rfl ⟨K2, by rw [HT2.out], by rw [HT2.out]; exact HK2.out, HOW, FW⟩
    unfold Km.val Km.arr
    simp [results, Try.results7, go_sem, c0, c1, c2, c3, c4, c5, c6]
  have HFP := Lib.hid (fits_iff.1 hok)
  obtain ⟨p0, p1, p2, p3, p4, p5, p6, p7, p8, k0, k1, k2, k3, k4, k5, k6, v0, v1, v2, v3⟩ := H3.out.cells
  go_wp2_with fail
  refine (HKS.out _).mono ?_
  rintro e w3 ⟨rfl, f2⟩
  have HF := Lib.hid (fr_nil HF.out f2)
  have H3 := Lib.hid (H3.out.fr f2)
  have HI := Lib.hid (HI.out.fr f2 id)
  have HZ : Hid (w.heap.size + 4 ≤ w3.heap.size) := Lib.hid (by have := f2.size; have := HZ.out; omega)
  clear p0 p1 p2 p3 p4 p5 p6 p7 p8 k0 k1 k2 k3 k4 k5 k6 v0 v1 v2 v3 f2
  cases hsee : seesB C.cf V.vp
  · have HT2 : Hid (T = (K.kp, 21)) := Lib.hid (HT.out.symm.trans (if_pos (by rw [hok, hsee]; rfl)))
    clear hok hsee
    obtain ⟨p0, p1, p2, p3, p4, p5, p6, p7, p8, k0, k1, k2, k3, k4, k5, k6, v0, v1, v2, v3⟩ := H3.out.cells
    clear p0 p1 p2 p3 p4 p5 p6 p7 p8 v0 v1 v2 v3
    go_wp2_with fail
    refine (HKC.out _ HF.out).mono ?_
    rintro _ v9 ⟨K2, rfl, hk2, o2, fv⟩
    have isr := HI.out.fr fv id
    obtain ⟨m0, m1, m2, m3, m4, m5, m6⟩ := seven isr
    have z0 := isr.frozen 0
    have z1 := isr.frozen 1
    have z2 := isr.frozen 2
    have z3 := isr.frozen 3
    have z4 := isr.frozen 4
    have z5 := isr.frozen 5
    have z6 := isr.frozen 6
    have HO2 := Lib.hid o2
    have HK2 := Lib.hid hk2
    have HF9 := Lib.hid (fr_nil HF.out fv)
    have HIR := Lib.hid isr
    clear k0 k1 k2 k3 k4 k5 k6 o2 hk2 fv isr
    unfold Km.val Km.arr
    go_wp2_with fail
    obtain ⟨W, hW, hiW, fR⟩ := put_box HIR.out K2
    obtain ⟨c0, c1, c2, c3, c4, c5, c6⟩ := core7 (K := K2) hiW
    rw [hW]
    clear hW m0 m1 m2 m3 m4 m5 m6 z0 z1 z2 z3 z4 z5 z6 hiW
    have hz2 := HZ.out
    have HOW : K2.Own w.heap.size W := (HO2.out.fr fR fun k hk e => by have := (HO2.out.lt k hk).1; omega).base (by omega)
    have FW : Fr (fun _ => False) w W := HF9.out.trans fR fun k hk e => by omega
    refine bodyPost_ret (v := .tuple #[K2.val, .int .i64 21]) ?_ rfl ⟨K2, by rw [HT2.out], by rw [HT2.out]; exact HK2.out, HOW, FW⟩
    unfold Km.val Km.arr
    simp [results, Try.results7, go_sem, c0, c1, c2, c3, c4, c5, c6]
  have KW := within_any (c := 1) (l := [now]) (w3.alloc (.cells #[.int .i64 now] 3)) (lit_rd w3 [.int .i64 now] 3) (by simp)
  go_upto_region 3 with fail
  go_wp2_with fail
  refine KW.mono ?_
  rintro e w4 ⟨rfl, f2⟩
  have f2 := fr_nil ((Fr.refl (fun _ => False) w3).alloc (.cells #[.int .i64 now] 3)) f2
  have HF := Lib.hid (fr_nil HF.out f2)
  have H3 := Lib.hid (H3.out.fr f2)
  have HI := Lib.hid (HI.out.fr f2 id)
  have HZ : Hid (w.heap.size + 4 ≤ w4.heap.size) := Lib.hid (by have := f2.size; have := HZ.out; omega)
  clear f2 KW
  rw [show [now].all tmB = tmB now from by simp]
  cases htm : tmB now
  · have HT2 : Hid (T = (K.kp, 32)) := Lib.hid (HT.out.symm.trans ((if_neg (by rw [hok, hsee]; decide)).trans (if_pos htm)))
    clear hok hsee htm
    obtain ⟨p0, p1, p2, p3, p4, p5, p6, p7, p8, k0, k1, k2, k3, k4, k5, k6, v0, v1, v2, v3⟩ := H3.out.cells
    clear p0 p1 p2 p3 p4 p5 p6 p7 p8 v0 v1 v2 v3
    go_wp2_with fail
    refine (HKC.out _ HF.out).mono ?_
    rintro _ v9 ⟨K2, rfl, hk2, o2, fv⟩
    have isr := HI.out.fr fv id
    obtain ⟨m0, m1, m2, m3, m4, m5, m6⟩ := seven isr
    have z0 := isr.frozen 0
    have z1 := isr.frozen 1
    have z2 := isr.frozen 2
    have z3 := isr.frozen 3
    have z4 := isr.frozen 4
    have z5 := isr.frozen 5
    have z6 := isr.frozen 6
    have HO2 := Lib.hid o2
    have HK2 := Lib.hid hk2
    have HF9 := Lib.hid (fr_nil HF.out fv)
    have HIR := Lib.hid isr
    clear k0 k1 k2 k3 k4 k5 k6 o2 hk2 fv isr
    unfold Km.val Km.arr
    go_wp2_with fail
    obtain ⟨W, hW, hiW, fR⟩ := put_box HIR.out K2
    obtain ⟨c0, c1, c2, c3, c4, c5, c6⟩ := core7 (K := K2) hiW
    rw [hW]
    clear hW m0 m1 m2 m3 m4 m5 m6 z0 z1 z2 z3 z4 z5 z6 hiW
    have hz2 := HZ.out
    have HOW : K2.Own w.heap.size W := (HO2.out.fr fR fun k hk e => by have := (HO2.out.lt k hk).1; omega).base (by omega)
    have FW : Fr (fun _ => False) w W := HF9.out.trans fR fun k hk e => by omega
    refine bodyPost_ret (v := .tuple #[K2.val, .int .i64 32]) ?_ rfl ⟨K2, by rw [HT2.out], by rw [HT2.out]; exact HK2.out, HOW, FW⟩
    unfold Km.val Km.arr
    simp [results, Try.results7, go_sem, c0, c1, c2, c3, c4, c5, c6]
  have HT2 : Hid (T = (linesK C.cf V.vp now (!K.dirty) K.kp 4, 0)) := Lib.hid (HT.out.symm.trans ((if_neg (by rw [hok, hsee]; decide)).trans (if_neg (by rw [htm]; decide))))
  have HTM := Lib.hid htm
  have HSE := Lib.hid hsee
  clear hok hsee htm HT
  generalize w4 = w5 at *
  have HS : Hid (∀ W, Fr (fun _ => False) w5 W → W.cell? ⟨w.heap.size, 0, none⟩ = some (.slice C.A1 C.l.length C.c1) ∧ W.cell? ⟨w.heap.size, 1, none⟩ = some (.slice C.A2 C.js.length C.c2) ∧ W.cell? ⟨w.heap.size, 2, none⟩ = some (.slice C.A3 C.sg.length C.c3) ∧ W.cell? ⟨w.heap.size, 3, none⟩ = some (.slice C.A4 C.cr.length C.c4) ∧ W.cell? ⟨w.heap.size, 4, none⟩ = some (.slice C.A5 C.rs.length C.c5) ∧ W.cell? ⟨w.heap.size, 5, none⟩ = some (.int .i64 C.tm.age) ∧ W.cell? ⟨w.heap.size, 6, none⟩ = some (.int .i64 C.tm.brake) ∧ W.cell? ⟨w.heap.size, 7, none⟩ = some (.int .i64 C.tm.hold) ∧ W.cell? ⟨w.heap.size, 8, none⟩ = some (.int .i64 C.tm.budget) ∧ W.cell? ⟨w.heap.size + 1, 0, none⟩ = some (.slice K.A1 K.own.length K.c1) ∧ W.cell? ⟨w.heap.size + 1, 1, none⟩ = some (.slice K.A2 K.rts.length K.c2) ∧ W.cell? ⟨w.heap.size + 1, 2, none⟩ = some (.slice K.A3 K.pts.length K.c3) ∧ W.cell? ⟨w.heap.size + 1, 3, none⟩ = some (.slice K.A4 K.crs.length K.c4) ∧ W.cell? ⟨w.heap.size + 1, 4, none⟩ = some (.slice K.A5 K.lns.length K.c5) ∧ W.cell? ⟨w.heap.size + 1, 5, none⟩ = some (.slice K.A6 K.rss.length K.c6) ∧ W.cell? ⟨w.heap.size + 1, 6, none⟩ = some (.bool K.dirty) ∧ W.cell? ⟨w.heap.size + 1 + 1, 0, none⟩ = some (.slice V.A1 V.occ.length V.c1) ∧ W.cell? ⟨w.heap.size + 1 + 1, 1, none⟩ = some (.slice V.A2 V.pos.length V.c2) ∧ W.cell? ⟨w.heap.size + 1 + 1, 2, none⟩ = some (.slice V.A3 V.shut.length V.c3) ∧ W.cell? ⟨w.heap.size + 1 + 1, 3, none⟩ = some (.slice V.A4 V.lamp.length V.c4)) := Lib.hid fun W f => (H3.out.fr f).cells
  go_upto_region 5 with fail
  have HG0 := Lib.hid (Fr.refl (fun _ => False) w5).drew
  refine wp_region_held_drew (S := (fun Wx => Wx.cell? ⟨w.heap.size, 0, none⟩ = some (.slice C.A1 C.l.length C.c1) ∧ Wx.cell? ⟨w.heap.size, 1, none⟩ = some (.slice C.A2 C.js.length C.c2) ∧ Wx.cell? ⟨w.heap.size, 2, none⟩ = some (.slice C.A3 C.sg.length C.c3) ∧ Wx.cell? ⟨w.heap.size, 3, none⟩ = some (.slice C.A4 C.cr.length C.c4) ∧ Wx.cell? ⟨w.heap.size, 4, none⟩ = some (.slice C.A5 C.rs.length C.c5) ∧ Wx.cell? ⟨w.heap.size, 5, none⟩ = some (.int .i64 C.tm.age) ∧ Wx.cell? ⟨w.heap.size, 6, none⟩ = some (.int .i64 C.tm.brake) ∧ Wx.cell? ⟨w.heap.size, 7, none⟩ = some (.int .i64 C.tm.hold) ∧ Wx.cell? ⟨w.heap.size, 8, none⟩ = some (.int .i64 C.tm.budget) ∧ Wx.cell? ⟨w.heap.size + 1, 0, none⟩ = some (.slice K.A1 K.own.length K.c1) ∧ Wx.cell? ⟨w.heap.size + 1, 1, none⟩ = some (.slice K.A2 K.rts.length K.c2) ∧ Wx.cell? ⟨w.heap.size + 1, 2, none⟩ = some (.slice K.A3 K.pts.length K.c3) ∧ Wx.cell? ⟨w.heap.size + 1, 3, none⟩ = some (.slice K.A4 K.crs.length K.c4) ∧ Wx.cell? ⟨w.heap.size + 1, 4, none⟩ = some (.slice K.A5 K.lns.length K.c5) ∧ Wx.cell? ⟨w.heap.size + 1, 5, none⟩ = some (.slice K.A6 K.rss.length K.c6) ∧ Wx.cell? ⟨w.heap.size + 1, 6, none⟩ = some (.bool K.dirty) ∧ Wx.cell? ⟨w.heap.size + 1 + 1, 0, none⟩ = some (.slice V.A1 V.occ.length V.c1) ∧ Wx.cell? ⟨w.heap.size + 1 + 1, 1, none⟩ = some (.slice V.A2 V.pos.length V.c2) ∧ Wx.cell? ⟨w.heap.size + 1 + 1, 2, none⟩ = some (.slice V.A3 V.shut.length V.c3) ∧ Wx.cell? ⟨w.heap.size + 1 + 1, 3, none⟩ = some (.slice V.A4 V.lamp.length V.c4))) (by kernel_rfl) (HS.out _ HG0.out) (fun hHeld => ?_)
  refine wpAnyH_take (i := 0) (oi := { dst := some 32, op := _, type := _, pos := _, after := _, guard := _ }) (v := ?_) rfl (by kernel_rfl) (by kernel_rfl) (by kernel_rfl) (fun _ _ _ h => h) (Or.inl ⟨by rfl, ?_⟩) (by assumption) ?_
  rotate_left
  · intro Wx hSw
    try dsimp only at hSw
    go_simp
    try with_reducible rfl
  try simp only [Act.put, List.setIfInBounds_toArray, List.set_cons_zero, List.set_cons_succ]
  refine wpAnyH_take (i := 2) (oi := { dst := some 34, op := _, type := _, pos := _, after := _, guard := _ }) (v := ?_) rfl (by kernel_rfl) (by kernel_rfl) (by kernel_rfl) (fun _ _ _ h => h) (Or.inl ⟨by rfl, ?_⟩) (by assumption) ?_
  rotate_left
  · intro Wx hSw
    try dsimp only at hSw
    go_simp
    try with_reducible rfl
  try simp only [Act.put, List.setIfInBounds_toArray, List.set_cons_zero, List.set_cons_succ]
  refine wpAnyH_take (i := 3) (oi := { dst := some 35, op := _, type := _, pos := _, after := _, guard := _ }) (v := ?_) rfl (by kernel_rfl) (by kernel_rfl) (by kernel_rfl) (fun _ _ _ h => h) (Or.inl ⟨by rfl, ?_⟩) (by assumption) ?_
  rotate_left
  · intro Wx hSw
    try dsimp only at hSw
    go_simp
    try with_reducible rfl
  try simp only [Act.put, List.setIfInBounds_toArray, List.set_cons_zero, List.set_cons_succ]
  refine wpAnyH_take (i := 4) (oi := { dst := some 36, op := _, type := _, pos := _, after := _, guard := _ }) (v := ?_) rfl (by kernel_rfl) (by kernel_rfl) (by kernel_rfl) (fun _ _ _ h => h) (Or.inl ⟨by rfl, ?_⟩) (by assumption) ?_
  rotate_left
  · intro Wx hSw
    try dsimp only at hSw
    go_simp
    try with_reducible rfl
  try simp only [Act.put, List.setIfInBounds_toArray, List.set_cons_zero, List.set_cons_succ]
  refine wpAnyH_take (i := 5) (oi := { dst := some 37, op := _, type := _, pos := _, after := _, guard := _ }) (v := ?_) rfl (by kernel_rfl) (by kernel_rfl) (by kernel_rfl) (fun _ _ _ h => h) (Or.inl ⟨by rfl, ?_⟩) (by assumption) ?_
  rotate_left
  · intro Wx hSw
    try dsimp only at hSw
    go_simp
    try with_reducible rfl
  try simp only [Act.put, List.setIfInBounds_toArray, List.set_cons_zero, List.set_cons_succ]
  refine wpAnyH_take (i := 6) (oi := { dst := some 38, op := _, type := _, pos := _, after := _, guard := _ }) (v := ?_) rfl (by kernel_rfl) (by kernel_rfl) (by kernel_rfl) (fun _ _ _ h => h) (Or.inl ⟨by rfl, ?_⟩) (by assumption) ?_
  rotate_left
  · intro Wx hSw
    try dsimp only at hSw
    go_simp
    try with_reducible rfl
  try simp only [Act.put, List.setIfInBounds_toArray, List.set_cons_zero, List.set_cons_succ]
  refine wpAnyH_ready (rs := [1]) (by kernel_rfl) (by simp) (AllReadyH.cons rfl (fun KK hKK => ?_) AllReadyH.nil)
  go_simp
  refine (HKC.out _ (fr_nil HF.out HG0.out)).mono ?_
  rintro e w6 ⟨K2, rfl, hk2, o2, f2⟩
  have HK2 := Lib.hid hk2
  have HO2 := Lib.hid o2
  have HG1 := Lib.hid (fr_nil HG0.out f2)
  clear hk2 o2 f2
  unfold Km.val Km.arr
  go_simp
  refine hKK.out _ _ (HS.out _ HG1.out) (fun hHeld => ?_)
  clear hKK KK
  refine wpAnyH_take (i := 7) (oi := { dst := some 39, op := _, type := _, pos := _, after := _, guard := _ }) (v := ?_) rfl (by kernel_rfl) (by kernel_rfl) (by kernel_rfl) (fun _ _ _ h => h) (Or.inl ⟨by rfl, ?_⟩) (by assumption) ?_
  rotate_left
  · intro Wx hSw
    try dsimp only at hSw
    go_simp
    try with_reducible rfl
  try simp only [Act.put, List.setIfInBounds_toArray, List.set_cons_zero, List.set_cons_succ]
  refine wpAnyH_ready (rs := [8]) (by kernel_rfl) (by simp) (AllReadyH.cons rfl (fun KK hKK => ?_) AllReadyH.nil)
  go_simp
  refine hKK.out _ _ (HS.out _ (HG1.out.alloc _)) (fun hHeld => ?_)
  clear hKK KK
  refine wpAnyH_take (i := 9) (oi := { dst := some 10, op := _, type := _, pos := _, after := _, guard := _ }) (v := ?_) rfl (by kernel_rfl) (by kernel_rfl) (by kernel_rfl) (fun _ _ _ h => h) (Or.inl ⟨by rfl, ?_⟩) (by assumption) ?_
  rotate_left
  · intro Wx hSw
    try dsimp only at hSw
    go_simp
    try with_reducible rfl
  try simp only [Act.put, List.setIfInBounds_toArray, List.set_cons_zero, List.set_cons_succ]
  refine wpAnyH_done (by kernel_rfl) ?_ _
  clear hHeld
  have hf := HG1.out.alloc (.cells #[.slice K2.A1 K2.own.length K2.c1, .slice K2.A2 K2.rts.length K2.c2, .slice K2.A3 K2.pts.length K2.c3, .slice K2.A4 K2.crs.length K2.c4, .slice K2.A5 K2.lns.length K2.c5, .slice K2.A6 K2.rss.length K2.c6, .bool K2.dirty, .slice V.A1 V.occ.length V.c1, .slice V.A2 V.pos.length V.c2, .slice V.A3 V.shut.length V.c3, .slice V.A4 V.lamp.length V.c4, .slice C.A1 C.l.length C.c1, .slice C.A2 C.js.length C.c2, .slice C.A3 C.sg.length C.c3, .slice C.A4 C.cr.length C.c4, .slice C.A5 C.rs.length C.c5, .int .i64 C.tm.age, .int .i64 C.tm.brake, .int .i64 C.tm.hold, .int .i64 C.tm.budget, .bool !K.dirty] 69)
  have HV5 := Lib.hid (HV.out.fr HF.out)
  have HC5 := Lib.hid (HC.out.fr HF.out)
  have hby : By w5 (w6.alloc (.cells #[.slice K2.A1 K2.own.length K2.c1, .slice K2.A2 K2.rts.length K2.c2, .slice K2.A3 K2.pts.length K2.c3, .slice K2.A4 K2.crs.length K2.c4, .slice K2.A5 K2.lns.length K2.c5, .slice K2.A6 K2.rss.length K2.c6, .bool K2.dirty, .slice V.A1 V.occ.length V.c1, .slice V.A2 V.pos.length V.c2, .slice V.A3 V.shut.length V.c3, .slice V.A4 V.lamp.length V.c4, .slice C.A1 C.l.length C.c1, .slice C.A2 C.js.length C.c2, .slice C.A3 C.sg.length C.c3, .slice C.A4 C.cr.length C.c4, .slice C.A5 C.rs.length C.c5, .int .i64 C.tm.age, .int .i64 C.tm.brake, .int .i64 C.tm.hold, .int .i64 C.tm.budget, .bool !K.dirty] 69)) w6.heap.size V (bw K2 K2.kp) C (!K.dirty) :=
    ⟨Is.new w6 _ _, (HO2.out.base HG0.out.size).fr ((Fr.refl (fun _ => False) w6).alloc _) fun _ _ => id, hf, HG1.out.size, HV5.out.fr hf, HC5.out.fr hf⟩
  clear hf HG1 HG0 HS
  have HBY := Lib.hid (show By w5 _ w6.heap.size V (bw K2 K.kp) C (!K.dirty) by rw [← HK2.out]; exact hby)
  clear hby HO2 HK2
  go_upto_region 6 with fail
  generalize w6.alloc _ = w7 at *
  generalize w6.heap.size = sb at *
  have hl5 : K.lns.length = 4 := HFP.out.l5
  have c4 : w7.cell? ⟨sb, 4, none⟩ = some (.slice K2.A5 K.lns.length K2.c5) := HBY.out.is.cell 4
  rw [hl5] at c4
  go_wp2_with fail
  clear c4 hl5
  go_loopg [11, 47] 4 (fun gi _ v47 wr => ∃ (i : Nat), i ≤ 4 ∧ gi = 4 - i ∧ v47 = .int .i64 (i : Nat) ∧ By w5 wr sb V (bw K2 (linesK C.cf V.vp now (!K.dirty) K.kp i)) C (!K.dirty))
  case atStart => exact ⟨0, Nat.zero_le _, rfl, rfl, HBY.out⟩
  case round =>
    clear HBY
    obtain ⟨i, hi, rfl, rfl, hb⟩ := hrel
    have HB := Lib.hid hb
    clear hb
    by_cases hlt : i < 4
    · have HLT := Lib.hid hlt
      have i1 : (0 : Int) ≤ (i : Int) := by omega
      have i2 : (i : Int) < 4 := by omega
      obtain ⟨p0, p1, p2, p3, p4, p5, p6, p7, p8, -, -, -, -, -, -, -, -, -, -, -⟩ := (H3.out.fr HB.out.f).cells
      have KH := has_any HB.out.cok (i : Int)
      obtain ⟨-, -, -, -, m5, m6⟩ := lines_keep (c := C.cf) (v := V.vp) (now := now) (rc := (!K.dirty)) (k := K.kp) i
      obtain ⟨m1, -, -, -, -, -⟩ := lines_keep (c := C.cf) (v := V.vp) (now := now) (rc := (!K.dirty)) (k := K.kp) i
      have hsl : V.occ.length = C.l.length := by
        have := HSE.out
        unfold seesB at this
        simp only [Bool.and_eq_true, decide_eq_true_eq] at this
        exact this.1
      have a1 : (linesK C.cf V.vp now (!K.dirty) K.kp i).own.length = C.l.length := by rw [m5]; exact HFP.out.l1
      have a2 : (linesK C.cf V.vp now (!K.dirty) K.kp i).rts.length = C.rs.length := by rw [m1]; have := HFP.out.l2; unfold Cm.cf at this; simpa using this
      have a3 : i < (linesK C.cf V.vp now (!K.dirty) K.kp i).lns.length := by rw [m6]; have : K.kp.lns.length = 4 := HFP.out.l5; omega
      have KGO := fun W (f : Fr (fun _ => False) wr W) (hh : hasB C.l (i : Int) = true) => goOn_any (HB.out.fr f) HV5.out HC5.out a3 hh a1 hsl a2 HTM.out
      have HN : Hid (linesK C.cf V.vp now (!K.dirty) K.kp (i + 1) = lineK C.cf V.vp now (!K.dirty) (i : Nat) (linesK C.cf V.vp now (!K.dirty) K.kp i)) := Lib.hid rfl
      have HKGO := Lib.hid KGO
      unfold Cm.val Cm.arr at KH
      clear hlt hi m1 m5 m6 hsl a1 a2 a3 KGO
      go_wp2_with fail
      refine KH.mono ?_
      rintro e wa ⟨rfl, fa⟩
      have HFA := Lib.hid fa
      clear KH fa p0 p1 p2 p3 p4 p5 p6 p7 p8
      cases hh : hasB C.l (i : Int)
      · have HE : Hid (linesK C.cf V.vp now (!K.dirty) K.kp (i + 1) = linesK C.cf V.vp now (!K.dirty) K.kp i) := Lib.hid (HN.out.trans (if_neg (by rw [show C.cf.secs = C.l from rfl, hh]; decide)))
        clear hh HKGO HN
        go_wp2_with fail
        go_roundg (4 - (i + 1))
        case measure => have := HLT.out; omega
        case rel => exact ⟨i + 1, HLT.out, rfl, by go_num, by rw [HE.out]; exact HB.out.fr HFA.out⟩
      · have KGO := HKGO.out _ HFA.out hh
        clear hh HKGO
        go_wp2_with fail
        refine KGO.mono ?_
        rintro _ wb ⟨rfl, hb⟩
        have HB2 := Lib.hid hb
        clear KGO hb
        go_wp2_with fail
        go_roundg (4 - (i + 1))
        case measure => have := HLT.out; omega
        case rel => exact ⟨i + 1, HLT.out, rfl, by go_num, by rw [HN.out]; exact HB2.out⟩
    · have hi4 : i = 4 := by omega
      subst hi4
      clear hlt hi
      obtain ⟨c0, c1, c2, c3, c4, c5, c6⟩ := HB.out.core7
      have isr := HI.out.fr HB.out.f id
      obtain ⟨m0, m1, m2, m3, m4, m5, m6⟩ := seven isr
      have z0 := isr.frozen 0
      have z1 := isr.frozen 1
      have z2 := isr.frozen 2
      have z3 := isr.frozen 3
      have z4 := isr.frozen 4
      have z5 := isr.frozen 5
      have z6 := isr.frozen 6
      obtain ⟨K9, hK9⟩ : ∃ K9 : Km, K9 = bw K2 (linesK C.cf V.vp now (!K.dirty) K.kp 4) := ⟨_, rfl⟩
      have HB9 : Hid (By w5 wr sb V K9 C (!K.dirty)) := Lib.hid (by rw [hK9]; exact HB.out)
      have HK9 : Hid (K9.kp = linesK C.cf V.vp now (!K.dirty) K.kp 4) := Lib.hid (by rw [hK9]; rfl)
      rw [← hK9] at c0 c1 c2 c3 c4 c5 c6
      obtain ⟨W, hW, hiW, fR⟩ := put_box isr K9
      have HIW := Lib.hid hiW
      have HFR := Lib.hid fR
      have HW := Lib.hid hW
      clear hW hiW fR isr hK9 HB
      go_wp2_with fail
      rw [HW.out]
      clear c0 c1 c2 c3 c4 c5 c6 m0 m1 m2 m3 m4 m5 m6 z0 z1 z2 z3 z4 z5 z6
      obtain ⟨c0, c1, c2, c3, c4, c5, c6⟩ := Bk.core7 (K := K9) HIW.out
      have hz2 := HZ.out
      have HOW : K9.Own w.heap.size W := (HB9.out.own.fr HFR.out fun k hk e => by have := (HB9.out.own.lt k hk).1; omega).base (by omega)
      have FW : Fr (fun _ => False) w W := (fr_nil HF.out HB9.out.f).trans HFR.out fun k hk e => by omega
      refine bodyPost_ret (v := .tuple #[K9.val, .int .i64 0]) ?_ rfl ⟨K9, by rw [HT2.out], by rw [HT2.out]; exact HK9.out, HOW, FW⟩
      unfold Km.val Km.arr
      simp [results, Try.results7, go_sem, c0, c1, c2, c3, c4, c5, c6]
end Go.Proofs.Ytnnacdkijeoeoaa.Bk
/- What is told to a neighbour, and heard of it (written by gen/hear.py). -/
namespace Go.Proofs.Ytnnacdkijeoeoaa.Bk
open Go.RowKit Lk Nk

def Bl.val (b : Bl) : Value := .agg #[.int .i64 b.ask, .int .i64 b.dn, .int .i64 b.gr]
theorem line_three {c : Cf} (h : checkE c = 0) {s : Nat} (hs : s < c.secs.length) : c.secs[s].line ≤ 3 := by
  obtain ⟨h1, -⟩ := check_parts h
  unfold checkB at h1
  simp only [Bool.and_eq_true] at h1
  have a := sections_at h1.2.1 s hs
  unfold secOkB at a
  simp at a
  omega
theorem three_cells {w : World} {b : Nat} {v0 v1 v2 : Value} {t : TypeId} (h : Is w b t #[v0, v1, v2]) : w.cell? ⟨b, 0, none⟩ = some v0 ∧ w.cell? ⟨b, 1, none⟩ = some v1 ∧ w.cell? ⟨b, 2, none⟩ = some v2 := ⟨h.cell 0, h.cell 1, h.cell 2⟩
set_option maxRecDepth 100000 in
set_option maxHeartbeats 4000000 in
theorem tell_any (K : Km) (w : World) (hK : Rd w K.A5 (K.lns.flatMap cLn)) (_hb : K.lns.length ≤ 9223372036854775807) (n : Int) :
    Calls Try.prog 12 #[K.val, .int .i64 n] w fun e w' => e = .returned (tellM K.kp n).val ∧ Fr (fun _ => False) w w' := by
  have HF0 := Lib.hid (((Fr.refl (fun _ => False) w).alloc (.cells K.arr 35)).alloc (.cells #[.int .i64 0, .int .i64 0, .int .i64 0] 37))
  have HI := Lib.hid ((Is.new w 35 K.arr).alloc (.cells #[.int .i64 0, .int .i64 0, .int .i64 0] 37))
  have hJ := Is.new (w.alloc (.cells K.arr 35)) 37 #[.int .i64 0, .int .i64 0, .int .i64 0]
  rw [show (w.alloc (.cells K.arr 35)).heap.size = w.heap.size + 1 by simp] at hJ
  have hz1 : w.heap.size ≤ w.heap.size + 1 := Nat.le_succ _
  have HJ := Lib.hid hJ
  have HK := Lib.hid hK
  generalize hT : tellM K.kp n = T
  unfold tellM at hT
  clear hJ hK
  unfold Km.val Km.arr at *
  go_enter Try.func12, Try.ntmps12
  go_upto_region 1 with fail
  generalize (w.alloc _).alloc _ = w1 at *
  have c4 : w1.cell? ⟨w.heap.size, 4, none⟩ = some (.slice K.A5 K.lns.length K.c5) := HI.out.cell 4
  obtain ⟨m0, m1, m2⟩ := three_cells HJ.out
  have z0 := HJ.out.frozen 0
  have z1 := HJ.out.frozen 1
  have z2 := HJ.out.frozen 2
  by_cases hn : n < 1
  · rw [if_pos (.inl hn)] at hT
    subst hT
    have e1 : decide (n < 1) = true := decide_eq_true hn
    have HFW := Lib.hid (((HF0.out.setCell (p := ⟨w.heap.size + 1, 0, none⟩) (.inr hz1) (.int .i64 0)).setCell (p := ⟨w.heap.size + 1, 1, none⟩) (.inr hz1) (.int .i64 0)).setCell (p := ⟨w.heap.size + 1, 2, none⟩) (.inr hz1) (.int .i64 0))
    have isW := ((HJ.out.set 0 (.int .i64 0)).set 1 (.int .i64 0)).set 2 (.int .i64 0)
    simp only [List.setIfInBounds_toArray, List.set_cons_zero, List.set_cons_succ] at isW
    have HIW := Lib.hid isW
    clear hn isW
    go_wp2_with fail
    generalize ((w1.setCell _ _).setCell _ _).setCell _ _ = w3 at *
    clear m0 m1 m2 z0 z1 z2
    obtain ⟨m0, m1, m2⟩ := three_cells HIW.out
    refine bodyPost_ret (v := (⟨0, 0, 0⟩ : Bl).val) ?_ rfl ⟨rfl, HFW.out⟩
    unfold Bl.val
    simp [results, Try.results12, go_sem, m0, m1, m2]
  · have e1 : decide (n < 1) = false := decide_eq_false hn
    obtain ⟨j, rfl⟩ := Int.eq_ofNat_of_zero_le (show 0 ≤ n by omega)
    by_cases hl : (K.lns.length : Int) ≤ (j : Int)
    · rw [if_pos (.inr hl)] at hT
      subst hT
      have e2 : decide ((j : Int) ≥ (K.lns.length : Int)) = true := decide_eq_true hl
      have e3 : decide (j ≥ K.lns.length) = true := decide_eq_true (by omega)
      have e4 : decide (K.lns.length ≤ j) = true := decide_eq_true (by omega)
      have HFW := Lib.hid (((HF0.out.setCell (p := ⟨w.heap.size + 1, 0, none⟩) (.inr hz1) (.int .i64 0)).setCell (p := ⟨w.heap.size + 1, 1, none⟩) (.inr hz1) (.int .i64 0)).setCell (p := ⟨w.heap.size + 1, 2, none⟩) (.inr hz1) (.int .i64 0))
      have isW := ((HJ.out.set 0 (.int .i64 0)).set 1 (.int .i64 0)).set 2 (.int .i64 0)
      simp only [List.setIfInBounds_toArray, List.set_cons_zero, List.set_cons_succ] at isW
      have HIW := Lib.hid isW
      clear hn hl isW
      go_wp2_with fail
      generalize ((w1.setCell _ _).setCell _ _).setCell _ _ = w3 at *
      clear m0 m1 m2 z0 z1 z2
      obtain ⟨m0, m1, m2⟩ := three_cells HIW.out
      refine bodyPost_ret (v := (⟨0, 0, 0⟩ : Bl).val) ?_ rfl ⟨rfl, HFW.out⟩
      unfold Bl.val
      simp [results, Try.results12, go_sem, m0, m1, m2]
    · have hlj : j < K.lns.length := by omega
      rw [if_neg (show ¬ ((j : Int) < 1 ∨ (K.kp.lns.length : Int) ≤ (j : Int)) from by show ¬ ((j : Int) < 1 ∨ (K.lns.length : Int) ≤ (j : Int)); omega), show lnAt K.kp (j : Int) = K.lns[j] from lnAt_get (k := K.kp) hlj] at hT
      have e2 : decide ((j : Int) ≥ (K.lns.length : Int)) = false := decide_eq_false hl
      have e3 : decide (j ≥ K.lns.length) = false := decide_eq_false (by omega)
      have e4 : decide (K.lns.length ≤ j) = false := decide_eq_false (by omega)
      obtain ⟨g, o, hA, q0, q1, q2, q3, q4, q5, q6, q7⟩ := rd_ln (HK.out.fr HF0.out fun _ _ => id) (j := j) hlj
      have i1 : (0 : Int) ≤ (j : Int) := by omega
      have i2 : (j : Int) < (K.lns.length : Int) := by omega
      rw [hA] at c4
      generalize K.lns[j] = l at *
      have HT := Lib.hid hT
      clear hT
      clear hA HI
      go_upto_region 4 with fail
      have HI2 := Lib.hid (Is.new w1 49 #[.int .i64 l.ask, .int .i64 l.dn, .int .i64 l.gr, .int .i64 l.told, .int .i64 l.pa, .int .i64 l.pd, .int .i64 l.pg, .int .i64 l.since])
      have f2 := (Fr.refl (fun _ => False) w1).alloc (.cells #[.int .i64 l.ask, .int .i64 l.dn, .int .i64 l.gr, .int .i64 l.told, .int .i64 l.pa, .int .i64 l.pd, .int .i64 l.pg, .int .i64 l.since] 49)
      have HF2 := Lib.hid (fr_nil HF0.out f2)
      have HJ2 := Lib.hid (HJ.out.fr f2 id)
      clear f2 q0 q1 q2 q3 q4 q5 q6 q7 c4 m0 m1 m2 z0 z1 z2 i1 i2 e1 e2 e3 e4
      generalize w1.alloc _ = w2 at *
      generalize w1.heap.size = lb at *
      have d0 : w2.cell? ⟨lb, 0, none⟩ = some (.int .i64 l.ask) := HI2.out.cell 0
      have d1 : w2.cell? ⟨lb, 1, none⟩ = some (.int .i64 l.dn) := HI2.out.cell 1
      have d3 : w2.cell? ⟨lb, 3, none⟩ = some (.int .i64 l.told) := HI2.out.cell 3
      obtain ⟨m0, m1, m2⟩ := three_cells HJ2.out
      have z0 := HJ2.out.frozen 0
      have z1 := HJ2.out.frozen 1
      have z2 := HJ2.out.frozen 2
      have HFW := Lib.hid (((HF2.out.setCell (p := ⟨w.heap.size + 1, 0, none⟩) (.inr hz1) (.int .i64 l.ask)).setCell (p := ⟨w.heap.size + 1, 1, none⟩) (.inr hz1) (.int .i64 l.dn)).setCell (p := ⟨w.heap.size + 1, 2, none⟩) (.inr hz1) (.int .i64 l.told))
      have isW := ((HJ2.out.set 0 (.int .i64 l.ask)).set 1 (.int .i64 l.dn)).set 2 (.int .i64 l.told)
      simp only [List.setIfInBounds_toArray, List.set_cons_zero, List.set_cons_succ] at isW
      have HIW := Lib.hid isW
      clear isW
      go_wp2_with fail
      generalize ((w2.setCell _ _).setCell _ _).setCell _ _ = w3 at *
      clear m0 m1 m2 z0 z1 z2
      obtain ⟨m0, m1, m2⟩ := three_cells HIW.out
      refine bodyPost_ret (v := (⟨l.ask, l.dn, l.told⟩ : Bl).val) ?_ rfl ⟨by rw [← HT.out], HFW.out⟩
      unfold Bl.val
      simp [results, Try.results12, go_sem, m0, m1, m2]
theorem _root_.Go.Proofs.Ytnnacdkijeoeoaa.Lk.Bx.peer {w0 w : World} {kb : Nat} {K : Km} (h : Bx w0 w kb K) {j g : Nat} (hj : j < K.lns.length) (hA : K.A5 = some ⟨g, 0, none⟩) (x y z : Int) :
    Bx w0 (((w.setCell ⟨g, j * 8 + 4, none⟩ (.int .i64 x)).setCell ⟨g, j * 8 + 5, none⟩ (.int .i64 y)).setCell ⟨g, j * 8 + 6, none⟩ (.int .i64 z)) kb { K with lns := K.lns.set j { K.lns[j] with pa := x, pd := y, pg := z } } := by
  have one : ∀ {w : World} {K : Km} (h : Bx w0 w kb K) {j g k : Nat} (hj : j < K.lns.length) (hA : K.A5 = some ⟨g, 0, none⟩) (hk8 : k < 8) (x : Int) (a' : Ln) (ha : cLn a' = (cLn K.lns[j]).set k (.int .i64 x)), Bx w0 (w.setCell ⟨g, j * 8 + k, none⟩ (.int .i64 x)) kb { K with lns := K.lns.set j a' } := by
    intro w K h j g k hj hA hk8 x a' ha
    have hk : K.at g := .inr (.inr (.inr (.inr (.inl (by rw [hA]; rfl)))))
    have hg := (h.own.lt g hk).1
    have hne : ¬ kb = g := fun e => h.no (e ▸ hk)
    obtain ⟨g0, e0, _, _, _, _, h0⟩ := h.own.set5 hj hk8 x a' ha
    have f0 : g0 = g := by rw [hA] at e0; injection e0 with e; injection e with e; exact e.symm
    subst f0
    refine ⟨?_, h0, h.f.setCell (p := ⟨g0, j * 8 + k, none⟩) (.inr hg) _, h.hb⟩
    have := h.is.far (p := ⟨g0, j * 8 + k, none⟩) hne (.int .i64 x)
    unfold Km.arr at this ⊢
    simpa only [List.length_set] using this
  have h1 := one h hj hA (k := 4) (by decide) x { K.lns[j] with pa := x } rfl
  have h2 := one h1 (j := j) (k := 5) (by simpa using hj) hA (by decide) y { K.lns[j] with pa := x, pd := y } (by simp [cLn])
  have h3 := one h2 (j := j) (k := 6) (by simpa using hj) hA (by decide) z { K.lns[j] with pa := x, pd := y, pg := z } (by simp [cLn])
  simpa only [List.set_set] using h3
set_option maxRecDepth 100000 in
set_option maxHeartbeats 16000000 in
theorem hear_any {C : Cm} {K : Km} {w : World} (hC : C.Ok w) (hK : K.Ok w) (n : Int) (b : Bl) :
    Calls Try.prog 9 #[C.val, K.val, .int .i64 n, b.val] w (Out w (hearM C.cf K.kp n b)) := by
  have KF := fun (W : World) (f : Fr (fun _ => False) w W) => fits_any C K W (hC.fr f) (hK.fr f)
  have KC := fun (W : World) (f : Fr (fun _ => False) w W) => copied_any K W (hK.fr f)
  have KH := fun (W : World) (f : Fr (fun _ => False) w W) => has_any (hC.fr f) n
  obtain ⟨ba, bd, bg⟩ := b
  have f0 := (((Fr.refl (fun _ => False) w).alloc (.cells C.arr 30)).alloc (.cells K.arr 35)).alloc (.cells #[.int .i64 ba, .int .i64 bd, .int .i64 bg] 37)
  have f0 := f0.alloc (.cells #[.slice none 0 0, .slice none 0 0, .slice none 0 0, .slice none 0 0, .slice none 0 0, .slice none 0 0, .bool false] 35)
  have ic := (((Is.new w 30 C.arr).alloc (.cells K.arr 35)).alloc (.cells #[.int .i64 ba, .int .i64 bd, .int .i64 bg] 37)).alloc (.cells #[.slice none 0 0, .slice none 0 0, .slice none 0 0, .slice none 0 0, .slice none 0 0, .slice none 0 0, .bool false] 35)
  have ik := ((Is.new (w.alloc (.cells C.arr 30)) 35 K.arr).alloc (.cells #[.int .i64 ba, .int .i64 bd, .int .i64 bg] 37)).alloc (.cells #[.slice none 0 0, .slice none 0 0, .slice none 0 0, .slice none 0 0, .slice none 0 0, .slice none 0 0, .bool false] 35)
  have ib := (Is.new ((w.alloc (.cells C.arr 30)).alloc (.cells K.arr 35)) 37 #[.int .i64 ba, .int .i64 bd, .int .i64 bg]).alloc (.cells #[.slice none 0 0, .slice none 0 0, .slice none 0 0, .slice none 0 0, .slice none 0 0, .slice none 0 0, .bool false] 35)
  have ir := Is.new (((w.alloc (.cells C.arr 30)).alloc (.cells K.arr 35)).alloc (.cells #[.int .i64 ba, .int .i64 bd, .int .i64 bg] 37)) 35 #[.slice none 0 0, .slice none 0 0, .slice none 0 0, .slice none 0 0, .slice none 0 0, .slice none 0 0, .bool false]
  have hsz : ((((w.alloc (.cells C.arr 30)).alloc (.cells K.arr 35)).alloc (.cells #[.int .i64 ba, .int .i64 bd, .int .i64 bg] 37)).alloc (.cells #[.slice none 0 0, .slice none 0 0, .slice none 0 0, .slice none 0 0, .slice none 0 0, .slice none 0 0, .bool false] 35)).heap.size = w.heap.size + 4 := by simp
  simp only [World.size_alloc] at ik ib ir
  have HKF := Lib.hid KF
  have HKC := Lib.hid KC
  have HKH := Lib.hid KH
  have HF := Lib.hid f0
  have HIC := Lib.hid ic
  have HIK := Lib.hid ik
  have HIB := Lib.hid ib
  have HIR := Lib.hid ir
  have HZ : Hid (w.heap.size + 4 ≤ _) := Lib.hid (Nat.le_of_eq hsz.symm)
  generalize hT : hearM C.cf K.kp n ⟨ba, bd, bg⟩ = T
  unfold hearM at hT
  have HT := Lib.hid hT
  clear hC hK KF KC KH f0 ic ik ib ir hsz hT
  unfold Cm.val Km.val Bl.val Cm.arr Km.arr at *
  go_enter Try.func9, Try.ntmps9
  go_upto_region 1 with fail
  generalize ((((w.alloc _).alloc _).alloc _).alloc _) = w1 at *
  have HIR1 := HIR
  obtain ⟨k0, k1, k2, k3, k4, k5, k6⟩ := Bk.core7 (K := K) HIK.out
  go_wp2_with fail
  refine (HKC.out _ HF.out).mono ?_
  rintro _ w2 ⟨K2, rfl, hk2, o2, f2⟩
  have HK2 := Lib.hid hk2
  have HBX := Lib.hid (bx_made o2 f2)
  clear hk2 o2 f2 k0 k1 k2 k3 k4 k5 k6 HKC
  unfold Km.val Km.arr
  go_upto_region 2 with fail
  generalize hw3 : w2.alloc _ = w3 at *
  generalize w2.heap.size = nb at *
  clear hw3
  have HIC := Lib.hid (HIC.out.fr HBX.out.f id)
  have HIK := Lib.hid (HIK.out.fr HBX.out.f id)
  have HIB := Lib.hid (HIB.out.fr HBX.out.f id)
  have HIR := Lib.hid (HIR.out.fr HBX.out.f id)
  have HF3 := Lib.hid (fr_nil HF.out HBX.out.f)
  obtain ⟨k0, k1, k2, k3, k4, k5, k6⟩ := Bk.core7 (K := K) HIK.out
  obtain ⟨p0, p1, p2, p3, p4, p5, p6, p7, p8⟩ := nine9 HIC.out
  go_wp2_with fail
  refine (HKF.out _ HF3.out).mono ?_
  rintro e w4 ⟨rfl, f2⟩
  have HBX := Lib.hid (HBX.out.fr f2)
  have HIC := Lib.hid (HIC.out.fr f2 id)
  have HIB := Lib.hid (HIB.out.fr f2 id)
  have HIR := Lib.hid (HIR.out.fr f2 id)
  have HF3 := Lib.hid (fr_nil HF3.out f2)
  clear f2 k0 k1 k2 k3 k4 k5 k6 p0 p1 p2 p3 p4 p5 p6 p7 p8 HKF HIK
  cases hok : fitsB C.cf K.kp
  · have HT2 : Hid (T = (K.kp, 21)) := Lib.hid (HT.out.symm.trans (if_pos hok))
    clear hok
    have isr := HIR.out
    obtain ⟨m0, m1, m2, m3, m4, m5, m6⟩ := seven isr
    have z0 := isr.frozen 0
    have z1 := isr.frozen 1
    have z2 := isr.frozen 2
    have z3 := isr.frozen 3
    have z4 := isr.frozen 4
    have z5 := isr.frozen 5
    have z6 := isr.frozen 6
    obtain ⟨k0, k1, k2, k3, k4, k5, k6⟩ := Bk.core7 (K := K2) HBX.out.is
    go_wp2_with fail
    obtain ⟨W, hW, hiW, fR⟩ := put_box HIR.out K2
    obtain ⟨c0, c1, c2, c3, c4, c5, c6⟩ := Bk.core7 (K := K2) hiW
    rw [hW]
    clear hW m0 m1 m2 m3 m4 m5 m6 z0 z1 z2 z3 z4 z5 z6 hiW k0 k1 k2 k3 k4 k5 k6
    have hz2 := HZ.out
    have HOW : K2.Own w.heap.size W := (HBX.out.own.fr fR fun k hk e => by have := (HBX.out.own.lt k hk).1; omega).base (by omega)
    have FW : Fr (fun _ => False) w W := HF3.out.trans fR fun k hk e => by omega
    refine bodyPost_ret (v := .tuple #[K2.val, .int .i64 21]) ?_ rfl ⟨K2, by rw [HT2.out], by rw [HT2.out]; exact HK2.out, HOW, FW⟩
    unfold Km.val Km.arr
    simp [results, Try.results9, go_sem, c0, c1, c2, c3, c4, c5, c6]
  have HFP := Lib.hid (fits_iff.1 hok)
  have HT := Lib.hid ((if_neg (by rw [hok]; decide)).symm.trans HT.out)
  obtain ⟨p0, p1, p2, p3, p4, p5, p6, p7, p8⟩ := nine9 HIC.out
  clear hok
  go_wp2_with fail
  refine (HKH.out _ HF3.out).mono ?_
  rintro e w5 ⟨rfl, f2⟩
  have HBX := Lib.hid (HBX.out.fr f2)
  have HIB := Lib.hid (HIB.out.fr f2 id)
  have HIR := Lib.hid (HIR.out.fr f2 id)
  have HF3 := Lib.hid (fr_nil HF3.out f2)
  clear f2 p0 p1 p2 p3 p4 p5 p6 p7 p8 HKH
  cases hh : hasB C.l n
  · have HT2 : Hid (T = (K.kp, 20)) := Lib.hid (HT.out.symm.trans (if_pos (show hasB C.cf.secs n = false from hh)))
    clear hh
    have isr := HIR.out
    obtain ⟨m0, m1, m2, m3, m4, m5, m6⟩ := seven isr
    have z0 := isr.frozen 0
    have z1 := isr.frozen 1
    have z2 := isr.frozen 2
    have z3 := isr.frozen 3
    have z4 := isr.frozen 4
    have z5 := isr.frozen 5
    have z6 := isr.frozen 6
    obtain ⟨k0, k1, k2, k3, k4, k5, k6⟩ := Bk.core7 (K := K2) HBX.out.is
    go_wp2_with fail
    obtain ⟨W, hW, hiW, fR⟩ := put_box HIR.out K2
    obtain ⟨c0, c1, c2, c3, c4, c5, c6⟩ := Bk.core7 (K := K2) hiW
    rw [hW]
    clear hW m0 m1 m2 m3 m4 m5 m6 z0 z1 z2 z3 z4 z5 z6 hiW k0 k1 k2 k3 k4 k5 k6
    have hz2 := HZ.out
    have HOW : K2.Own w.heap.size W := (HBX.out.own.fr fR fun k hk e => by have := (HBX.out.own.lt k hk).1; omega).base (by omega)
    have FW : Fr (fun _ => False) w W := HF3.out.trans fR fun k hk e => by omega
    refine bodyPost_ret (v := .tuple #[K2.val, .int .i64 20]) ?_ rfl ⟨K2, by rw [HT2.out], by rw [HT2.out]; exact HK2.out, HOW, FW⟩
    unfold Km.val Km.arr
    simp [results, Try.results9, go_sem, c0, c1, c2, c3, c4, c5, c6]
  have HT := Lib.hid ((if_neg (by rw [show hasB C.cf.secs n = hasB C.l n from rfl, hh]; decide)).symm.trans HT.out)
  have HHB := Lib.hid hh
  clear hh
  obtain ⟨b0, b1, b2⟩ := three_cells HIB.out
  have KW := within_any (c := 3) (l := [ba, bd, bg]) (w5.alloc (.cells #[.int .i64 ba, .int .i64 bd, .int .i64 bg] 3)) (lit_rd w5 [.int .i64 ba, .int .i64 bd, .int .i64 bg] 3) (by simp)
  go_upto_region 6 with fail
  go_wp2_with fail
  refine KW.mono ?_
  rintro e w6 ⟨rfl, f2⟩
  have f2 := fr_nil ((Fr.refl (fun _ => False) w5).alloc (.cells #[.int .i64 ba, .int .i64 bd, .int .i64 bg] 3)) f2
  have HBX := Lib.hid (HBX.out.fr f2)
  have HIB := Lib.hid (HIB.out.fr f2 id)
  have HIR := Lib.hid (HIR.out.fr f2 id)
  have HF3 := Lib.hid (fr_nil HF3.out f2)
  clear f2 KW b0 b1 b2
  rw [show [ba, bd, bg].all tmB = (tmB ba && (tmB bd && tmB bg)) from by simp]
  cases htm : (tmB ba && (tmB bd && tmB bg))
  · have HT2 : Hid (T = (K.kp, 32)) := Lib.hid (HT.out.symm.trans (if_pos htm))
    clear htm
    have isr := HIR.out
    obtain ⟨m0, m1, m2, m3, m4, m5, m6⟩ := seven isr
    have z0 := isr.frozen 0
    have z1 := isr.frozen 1
    have z2 := isr.frozen 2
    have z3 := isr.frozen 3
    have z4 := isr.frozen 4
    have z5 := isr.frozen 5
    have z6 := isr.frozen 6
    obtain ⟨k0, k1, k2, k3, k4, k5, k6⟩ := Bk.core7 (K := K2) HBX.out.is
    go_wp2_with fail
    obtain ⟨W, hW, hiW, fR⟩ := put_box HIR.out K2
    obtain ⟨c0, c1, c2, c3, c4, c5, c6⟩ := Bk.core7 (K := K2) hiW
    rw [hW]
    clear hW m0 m1 m2 m3 m4 m5 m6 z0 z1 z2 z3 z4 z5 z6 hiW k0 k1 k2 k3 k4 k5 k6
    have hz2 := HZ.out
    have HOW : K2.Own w.heap.size W := (HBX.out.own.fr fR fun k hk e => by have := (HBX.out.own.lt k hk).1; omega).base (by omega)
    have FW : Fr (fun _ => False) w W := HF3.out.trans fR fun k hk e => by omega
    refine bodyPost_ret (v := .tuple #[K2.val, .int .i64 32]) ?_ rfl ⟨K2, by rw [HT2.out], by rw [HT2.out]; exact HK2.out, HOW, FW⟩
    unfold Km.val Km.arr
    simp [results, Try.results9, go_sem, c0, c1, c2, c3, c4, c5, c6]
  have HT := Lib.hid ((if_neg (by rw [htm]; decide)).symm.trans HT.out)
  clear htm
  obtain ⟨b0, b1, b2⟩ := three_cells HIB.out
  obtain ⟨s, es, hs, hx⟩ := sec_at HHB.out
  have hn4 : 1 ≤ n := by have := HHB.out; unfold hasB at this; rw [Bool.and_eq_true, decide_eq_true_eq] at this; exact this.1
  have hsl : n ≤ 3 := by
    have h9 : C.l[s].line ≤ 3 := line_three HFP.out.chk (s := s) hs
    rw [hx] at h9
    exact h9
  obtain ⟨j, rfl⟩ := Int.eq_ofNat_of_zero_le (show 0 ≤ n by omega)
  have hl2 : K2.lns.length = 4 := by
    have : K2.kp.lns.length = 4 := by rw [HK2.out]; exact HFP.out.l5
    exact this
  have hj : j < K2.lns.length := by omega
  obtain ⟨g, hA, -, -⟩ := own_some HBX.out.own.lns (by omega)
  have ho := HBX.out.own.lns
  obtain ⟨g', o', e', q0, q1, q2, q3, q4, q5, q6, q7⟩ := rd_ln (wide_rd ho) hj
  rw [hA] at e' ho
  injection e' with e'
  injection e' with e1 e2
  subst e1 e2
  simp only [Nat.zero_add] at q4 q5 q6
  have z4 := ho.frozenAt (j * 8 + 4)
  have z5 := ho.frozenAt (j * 8 + 5)
  have z6 := ho.frozenAt (j * 8 + 6)
  have c4 : w6.cell? ⟨nb, 4, none⟩ = some (.slice K2.A5 K2.lns.length K2.c5) := HBX.out.is.cell 4
  rw [hA] at c4
  have HB3 := Lib.hid (HBX.out.peer hj hA ba bd bg)
  have HTE : Hid (({ K2 with lns := K2.lns.set j { K2.lns[j] with pa := ba, pd := bd, pg := bg } } : Km).kp = T.1 ∧ T.2 = 0) := Lib.hid (by
    rw [← HT.out]
    refine ⟨?_, rfl⟩
    have e : lnAt K.kp (j : Int) = K2.lns[j] := by rw [← HK2.out]; exact lnAt_get (k := K2.kp) hj
    rw [e]
    have e9 : K2.kp = K.kp := HK2.out
    unfold Km.kp at e9 ⊢
    simp only [Kp.mk.injEq] at e9 ⊢
    obtain ⟨r1, r2, r3, r4, r5, r6, r7⟩ := e9
    refine ⟨r1, r2, r3, r4, ?_, r6, r7⟩
    rw [Int.toNat_natCast, ← r5]
    try rfl)
  have i1 : (0 : Int) ≤ (j : Int) := by omega
  have i2 : (j : Int) < (K2.lns.length : Int) := by omega
  have HIB9 := Lib.hid (HIR.out)
  clear hA ho q0 q1 q2 q3 q7 es hs hx hn4 hsl HHB HT HFP HK2
  go_upto_region 9 with fail
  have HB4 := HB3
  obtain ⟨K4, hK4⟩ : ∃ K4 : Km, K4 = { K2 with lns := K2.lns.set j { K2.lns[j] with pa := ba, pd := bd, pg := bg } } := ⟨_, rfl⟩
  rw [← hK4] at HB4 HTE
  clear hK4 HB3
  generalize ((w6.setCell _ _).setCell _ _).setCell _ _ = w7 at *
  clear b0 b1 b2 c4 q4 q5 q6 z4 z5 z6 i1 i2
  have HIRW := Lib.hid (HIR1.out.fr HB4.out.f id)
  have isr := HIRW.out
  obtain ⟨m0, m1, m2, m3, m4, m5, m6⟩ := seven isr
  have z0 := isr.frozen 0
  have z1 := isr.frozen 1
  have z2 := isr.frozen 2
  have z3 := isr.frozen 3
  have z4 := isr.frozen 4
  have z5 := isr.frozen 5
  have z6 := isr.frozen 6
  obtain ⟨k0, k1, k2, k3, k4, k5, k6⟩ := Bk.core7 (K := K4) HB4.out.is
  go_wp2_with fail
  obtain ⟨W, hW, hiW, fR⟩ := put_box HIRW.out K4
  obtain ⟨c0, c1, c2, c3, c4, c5, c6⟩ := Bk.core7 (K := K4) hiW
  rw [hW]
  clear hW m0 m1 m2 m3 m4 m5 m6 z0 z1 z2 z3 z4 z5 z6 hiW k0 k1 k2 k3 k4 k5 k6
  have hz2 := HZ.out
  have HOW : K4.Own w.heap.size W := (HB4.out.own.fr fR fun k hk e => by have := (HB4.out.own.lt k hk).1; omega).base (by omega)
  have FW : Fr (fun _ => False) w W := (fr_nil HF.out HB4.out.f).trans fR fun k hk e => by omega
  refine bodyPost_ret (v := .tuple #[K4.val, .int .i64 0]) ?_ rfl ⟨K4, by rw [HTE.out.2], HTE.out.1, HOW, FW⟩
  unfold Km.val Km.arr
  simp [results, Try.results9, go_sem, c0, c1, c2, c3, c4, c5, c6]
end Go.Proofs.Ytnnacdkijeoeoaa.Bk

import Derived.Test.YtginfnbdnkgjbaaGreatJ1
import Derived.Test.YtginfnbdnkgjbaaGreatLm
import Derived.Test.YtginfnbdnkgjbaaGreatKz
namespace Go.Proofs.YtginfnbdnkgjbaaGreat.Lk
open Go.RowKit
theorem right_small {c : Cf} (h : checkE c = 0) : c.secs.length ≤ 24 ∧ c.crs.length ≤ 4 ∧ c.rts.length ≤ 12 := by
 obtain ⟨h1, -, h3, h4, -, -⟩ := check_parts h
 unfold checkB at h1
 rw [Bool.and_eq_true] at h1
 rw [Bool.and_eq_true, decide_eq_true_eq] at h3
 have := (sizes_short h1.1).2.1
 exact ⟨by omega, h3.1, h4⟩
theorem fit_ok {B : Nat} {w : World} {K : Km} {c : Cf} (ho : K.Own B w) (h : FitP c K.kp) : K.Ok w := by
 obtain ⟨a, b, d⟩ := right_small h.chk
 have l1 : K.own.length = c.secs.length := h.l1
 have l2 : K.rts.length = c.rts.length := h.l2
 have l3 : K.pts.length = c.secs.length := h.l3
 have l4 : K.crs.length = c.crs.length := h.l4
 have l5 : K.lns.length = 4 := h.l5
 have l6 : K.rss.length = c.secs.length := h.l6
 exact ho.ok (by omega) (by omega) (by omega) (by omega) (by omega) (by omega)
theorem gate_fit {c : Cf} {k : Kp} (h : FitP c k) (x : Kp × Int) : gateM c k true x = x := by
 unfold gateM
 rw [fits_iff.2 h, if_neg (by decide), if_neg (by decide)]
end Go.Proofs.YtginfnbdnkgjbaaGreat.Lk
namespace Go.Proofs.YtginfnbdnkgjbaaGreat.Lk
open Go.RowKit
set_option maxRecDepth 100000 in
set_option maxHeartbeats 8000000 in
theorem answer_Cancel_any (C : Cm) (K : Km) (w : World) (hC : C.Ok w) (hK : K.Ok w) (u1 u2 : Value) (x : Kp × Int) {At : Option Addr} {ct : Nat} {ts : List Int} (ht : Rd w At (ts.map (Value.int .i64))) (hl : ts.length ≤ 9223372036854775807)
  (hx : ∀ w0 W sb K', Fr (fun _ => False) w w0 → St w0 W sb K' C → K'.kp = K.kp → fitsB C.cf K.kp = true → ts.all tmB = true → Calls Tryz.prog 87 #[.pointer (some ⟨sb, 0, none⟩), u1, u2] W (Left w0 sb C x)) :
  Calls Tryz.prog 84 #[C.val, K.val, .func (.func 87) #[] #[u1, u2], .slice At ts.length ct] w (AnsE w (gateM C.cf K.kp (ts.all tmB) (if x.2 = 0 then x else (K.kp, x.2)))) := by
 have KF := fun W (f : Fr (fun _ => False) w W) => fits_any C K W (hC.fr f) (hK.fr f)
 have KO := fun W (f : Fr (fun _ => False) w W) => copied_any K W (hK.fr f)
 have KW : ∀ W, Fr (fun _ => False) w W → Calls Tryz.prog 79 #[.int .i64 0, .int .i64 4294967295, .slice At ts.length ct] W fun e w' => e = .returned (.bool (ts.all tmB)) ∧ Fr (fun _ => False) W w' := fun W (f : Fr (fun _ => False) w W) => within_any (c := ct) 0 4294967295 ts W (ht.fr f fun _ _ => id) hl
 have HX := Lib.hid hx
 have HF0 := Lib.hid ((((Fr.refl (fun _ => False) w).alloc (.cells C.arr 30)).alloc (.cells K.arr 35)).alloc (.cells #[.slice none 0 0, .slice none 0 0, .slice none 0 0, .slice none 0 0, .slice none 0 0, .slice none 0 0, .bool false] 35))
 have HIC := Lib.hid (((Is.new w 30 C.arr).alloc (.cells K.arr 35)).alloc (.cells #[.slice none 0 0, .slice none 0 0, .slice none 0 0, .slice none 0 0, .slice none 0 0, .slice none 0 0, .bool false] 35))
 have HIK := Lib.hid ((Is.new (w.alloc (.cells C.arr 30)) 35 K.arr).alloc (.cells #[.slice none 0 0, .slice none 0 0, .slice none 0 0, .slice none 0 0, .slice none 0 0, .slice none 0 0, .bool false] 35))
 have HIR := Lib.hid (Is.new ((w.alloc (.cells C.arr 30)).alloc (.cells K.arr 35)) 35 #[.slice none 0 0, .slice none 0 0, .slice none 0 0, .slice none 0 0, .slice none 0 0, .slice none 0 0, .bool false])
 have hz : (((w.alloc (.cells C.arr 30)).alloc (.cells K.arr 35)).alloc (.cells #[.slice none 0 0, .slice none 0 0, .slice none 0 0, .slice none 0 0, .slice none 0 0, .slice none 0 0, .bool false] 35)).heap.size = w.heap.size + 3 := by simp
 rw [show ((w.alloc (.cells C.arr 30)).alloc (.cells K.arr 35)).heap.size = w.heap.size + 1 + 1 by simp] at HIR
 rw [show (w.alloc (.cells C.arr 30)).heap.size = w.heap.size + 1 by simp] at HIK
 have HZ := Lib.hid hz
 clear hx hC hK ht hz
 unfold gateM
 unfold Cm.val Km.val Cm.arr Km.arr at *
 generalize hy : (if x.2 = 0 then x else (K.kp, x.2)) = y
 have HY := Lib.hid hy
 clear hy
 generalize fitsB C.cf K.kp = b at *
 cases b
 ·rw [if_pos rfl]
  clear KW HX
  go_enter Tryz.func84, Tryz.ntmps84
  go_upto_region 1 with (fail)
  have F := HF0.out
  have isc := HIC.out
  have isk := HIK.out
  have isr := HIR.out
  have hz := HZ.out
  clear HF0 HIC HIK HIR HZ
  generalize (((w.alloc _).alloc _).alloc _) = w0 at *
  have HSZ := Lib.hid (Nat.le_of_eq hz.symm)
  clear hz
  obtain ⟨p0, p1, p2, p3, p4, p5, p6, p7, p8⟩ := conf_cells0 isc
  obtain ⟨k0, k1, k2, k3, k4, k5, k6⟩ := core_cells (K := K) isk
  go_wp2_with fail
  refine (KF _ F).mono ?_
  rintro _ w1 ⟨rfl, fv⟩
  have isc := isc.fr fv id
  have isk := isk.fr fv id
  have isr := isr.fr fv id
  have F := fr_nil F fv
  have HSZ := Lib.hid (Nat.le_trans HSZ.out fv.size)
  clear fv KF p0 p1 p2 p3 p4 p5 p6 p7 p8 k0 k1 k2 k3 k4 k5 k6
  obtain ⟨k0, k1, k2, k3, k4, k5, k6⟩ := core_cells (K := K) isk
  go_wp2_with fail
  refine (KO _ F).mono ?_
  rintro _ v9 ⟨K2, rfl, hk2, o2, fv⟩
  have isr := isr.fr fv id
  have HS9 := Lib.hid (Nat.le_trans HSZ.out (show _ ≤ v9.heap.size from fv.size))
  have HS8 := HSZ
  have HO2 := Lib.hid o2
  have HK2 := Lib.hid hk2
  have HF9 := Lib.hid (fr_nil F fv)
  obtain ⟨m0, m1, m2, m3, m4, m5, m6⟩ := seven isr
  have z0 := isr.frozen 0
  have z1 := isr.frozen 1
  have z2 := isr.frozen 2
  have z3 := isr.frozen 3
  have z4 := isr.frozen 4
  have z5 := isr.frozen 5
  have z6 := isr.frozen 6
  clear o2 hk2 fv k0 k1 k2 k3 k4 k5 k6 F isk KO
  unfold Km.val Km.arr
  go_wp2_with fail
  have isR := (((((((isr.set 0 (.slice K2.A1 K2.own.length K2.c1)).set 1 (.slice K2.A2 K2.rts.length K2.c2)).set 2 (.slice K2.A3 K2.pts.length K2.c3)).set 3 (.slice K2.A4 K2.crs.length K2.c4)).set 4 (.slice K2.A5 K2.lns.length K2.c5)).set 5 (.slice K2.A6 K2.rss.length K2.c6)).set 6 (.bool K2.dirty))
  have fR := ((((((((Fr.refl (fun q => q = w.heap.size + 1 + 1) v9).setCell (p := ⟨w.heap.size + 1 + 1, 0, none⟩) (.inl rfl) (.slice K2.A1 K2.own.length K2.c1)).setCell (p := ⟨w.heap.size + 1 + 1, 1, none⟩) (.inl rfl) (.slice K2.A2 K2.rts.length K2.c2)).setCell (p := ⟨w.heap.size + 1 + 1, 2, none⟩) (.inl rfl) (.slice K2.A3 K2.pts.length K2.c3)).setCell (p := ⟨w.heap.size + 1 + 1, 3, none⟩) (.inl rfl) (.slice K2.A4 K2.crs.length K2.c4)).setCell (p := ⟨w.heap.size + 1 + 1, 4, none⟩) (.inl rfl) (.slice K2.A5 K2.lns.length K2.c5)).setCell (p := ⟨w.heap.size + 1 + 1, 5, none⟩) (.inl rfl) (.slice K2.A6 K2.rss.length K2.c6)).setCell (p := ⟨w.heap.size + 1 + 1, 6, none⟩) (.inl rfl) (.bool K2.dirty))
  simp only [List.setIfInBounds_toArray, List.set_cons_zero, List.set_cons_succ] at isR
  generalize hW : World.setCell _ _ _ = W at *
  have c0 := isR.cell 0
  have c1 := isR.cell 1
  have c2 := isR.cell 2
  have c3 := isR.cell 3
  have c4 := isR.cell 4
  have c5 := isR.cell 5
  have c6 := isR.cell 6
  have HOW : K2.Own w.heap.size W := (HO2.out.fr fR fun k hk e => by have a := (HO2.out.lt k hk).1; have b := HS8.out; omega).base (by have b := HS8.out; omega)
  have FW : Fr (fun _ => False) w W := HF9.out.trans fR fun k hk e => by omega
  refine bodyPost_ret (v := .tuple #[K2.val, .int .i64 21]) ?_ rfl ⟨K2, rfl, HK2.out, HOW, FW⟩
  unfold Km.val Km.arr
  simp [results, Tryz.results84, go_sem, c0, c1, c2, c3, c4, c5, c6]
 ·rw [if_neg (by decide)]
  generalize ts.all tmB = d at *
  cases d
  ·rw [if_pos rfl]
   clear HX
   go_enter Tryz.func84, Tryz.ntmps84
   go_upto_region 1 with (fail)
   have F := HF0.out
   have isc := HIC.out
   have isk := HIK.out
   have isr := HIR.out
   have hz := HZ.out
   clear HF0 HIC HIK HIR HZ
   generalize (((w.alloc _).alloc _).alloc _) = w0 at *
   have HSZ := Lib.hid (Nat.le_of_eq hz.symm)
   clear hz
   obtain ⟨p0, p1, p2, p3, p4, p5, p6, p7, p8⟩ := conf_cells0 isc
   obtain ⟨k0, k1, k2, k3, k4, k5, k6⟩ := core_cells (K := K) isk
   go_wp2_with fail
   refine (KF _ F).mono ?_
   rintro _ w1 ⟨rfl, fv⟩
   have isc := isc.fr fv id
   have isk := isk.fr fv id
   have isr := isr.fr fv id
   have F := fr_nil F fv
   have HSZ := Lib.hid (Nat.le_trans HSZ.out fv.size)
   clear fv KF p0 p1 p2 p3 p4 p5 p6 p7 p8 k0 k1 k2 k3 k4 k5 k6
   go_wp2_with fail
   refine (KW _ F).mono ?_
   rintro _ w2 ⟨rfl, fv⟩
   have isk := isk.fr fv id
   have isr := isr.fr fv id
   have F := fr_nil F fv
   have HSZ := Lib.hid (Nat.le_trans HSZ.out fv.size)
   clear fv KW isc
   obtain ⟨k0, k1, k2, k3, k4, k5, k6⟩ := core_cells (K := K) isk
   go_wp2_with fail
   refine (KO _ F).mono ?_
   rintro _ v9 ⟨K2, rfl, hk2, o2, fv⟩
   have isr := isr.fr fv id
   have HS9 := Lib.hid (Nat.le_trans HSZ.out (show _ ≤ v9.heap.size from fv.size))
   have HS8 := HSZ
   have HO2 := Lib.hid o2
   have HK2 := Lib.hid hk2
   have HF9 := Lib.hid (fr_nil F fv)
   obtain ⟨m0, m1, m2, m3, m4, m5, m6⟩ := seven isr
   have z0 := isr.frozen 0
   have z1 := isr.frozen 1
   have z2 := isr.frozen 2
   have z3 := isr.frozen 3
   have z4 := isr.frozen 4
   have z5 := isr.frozen 5
   have z6 := isr.frozen 6
   clear o2 hk2 fv k0 k1 k2 k3 k4 k5 k6 F isk KO
   unfold Km.val Km.arr
   go_wp2_with fail
   have isR := (((((((isr.set 0 (.slice K2.A1 K2.own.length K2.c1)).set 1 (.slice K2.A2 K2.rts.length K2.c2)).set 2 (.slice K2.A3 K2.pts.length K2.c3)).set 3 (.slice K2.A4 K2.crs.length K2.c4)).set 4 (.slice K2.A5 K2.lns.length K2.c5)).set 5 (.slice K2.A6 K2.rss.length K2.c6)).set 6 (.bool K2.dirty))
   have fR := ((((((((Fr.refl (fun q => q = w.heap.size + 1 + 1) v9).setCell (p := ⟨w.heap.size + 1 + 1, 0, none⟩) (.inl rfl) (.slice K2.A1 K2.own.length K2.c1)).setCell (p := ⟨w.heap.size + 1 + 1, 1, none⟩) (.inl rfl) (.slice K2.A2 K2.rts.length K2.c2)).setCell (p := ⟨w.heap.size + 1 + 1, 2, none⟩) (.inl rfl) (.slice K2.A3 K2.pts.length K2.c3)).setCell (p := ⟨w.heap.size + 1 + 1, 3, none⟩) (.inl rfl) (.slice K2.A4 K2.crs.length K2.c4)).setCell (p := ⟨w.heap.size + 1 + 1, 4, none⟩) (.inl rfl) (.slice K2.A5 K2.lns.length K2.c5)).setCell (p := ⟨w.heap.size + 1 + 1, 5, none⟩) (.inl rfl) (.slice K2.A6 K2.rss.length K2.c6)).setCell (p := ⟨w.heap.size + 1 + 1, 6, none⟩) (.inl rfl) (.bool K2.dirty))
   simp only [List.setIfInBounds_toArray, List.set_cons_zero, List.set_cons_succ] at isR
   generalize hW : World.setCell _ _ _ = W at *
   have c0 := isR.cell 0
   have c1 := isR.cell 1
   have c2 := isR.cell 2
   have c3 := isR.cell 3
   have c4 := isR.cell 4
   have c5 := isR.cell 5
   have c6 := isR.cell 6
   have HOW : K2.Own w.heap.size W := (HO2.out.fr fR fun k hk e => by have a := (HO2.out.lt k hk).1; have b := HS8.out; omega).base (by have b := HS8.out; omega)
   have FW : Fr (fun _ => False) w W := HF9.out.trans fR fun k hk e => by omega
   refine bodyPost_ret (v := .tuple #[K2.val, .int .i64 32]) ?_ rfl ⟨K2, rfl, HK2.out, HOW, FW⟩
   unfold Km.val Km.arr
   simp [results, Tryz.results84, go_sem, c0, c1, c2, c3, c4, c5, c6]
  ·rw [if_neg (by decide)]
   go_enter Tryz.func84, Tryz.ntmps84
   go_upto_region 1 with (fail)
   have F := HF0.out
   have isc := HIC.out
   have isk := HIK.out
   have isr := HIR.out
   have hz := HZ.out
   clear HF0 HIC HIK HIR HZ
   generalize (((w.alloc _).alloc _).alloc _) = w0 at *
   have HSZ := Lib.hid (Nat.le_of_eq hz.symm)
   clear hz
   obtain ⟨p0, p1, p2, p3, p4, p5, p6, p7, p8⟩ := conf_cells0 isc
   obtain ⟨k0, k1, k2, k3, k4, k5, k6⟩ := core_cells (K := K) isk
   go_wp2_with fail
   refine (KF _ F).mono ?_
   rintro _ w1 ⟨rfl, fv⟩
   have isc := isc.fr fv id
   have isk := isk.fr fv id
   have isr := isr.fr fv id
   have F := fr_nil F fv
   have HSZ := Lib.hid (Nat.le_trans HSZ.out fv.size)
   clear fv KF p0 p1 p2 p3 p4 p5 p6 p7 p8 k0 k1 k2 k3 k4 k5 k6
   go_wp2_with fail
   refine (KW _ F).mono ?_
   rintro _ w2 ⟨rfl, fv⟩
   have isc := isc.fr fv id
   have isk := isk.fr fv id
   have isr := isr.fr fv id
   have F := fr_nil F fv
   have HSZ := Lib.hid (Nat.le_trans HSZ.out fv.size)
   clear fv KW
   go_upto_region 5 with (fail)
   have HIC := Lib.hid isc
   have HIK := Lib.hid isk
   have HIR := Lib.hid isr
   have HF := Lib.hid F
   clear isc isk isr F
   have HS : Hid (∀ W, Fr (fun _ => False) w2 W → (fun Wx => (Wx.cell? ⟨w.heap.size, 0, none⟩ = some (.slice C.A1 C.l.length C.c1) ∧ Wx.cell? ⟨w.heap.size, 1, none⟩ = some (.slice C.A2 C.js.length C.c2) ∧ Wx.cell? ⟨w.heap.size, 2, none⟩ = some (.slice C.A3 C.sg.length C.c3) ∧ Wx.cell? ⟨w.heap.size, 3, none⟩ = some (.slice C.A4 C.cr.length C.c4) ∧ Wx.cell? ⟨w.heap.size, 4, none⟩ = some (.slice C.A5 C.rs.length C.c5) ∧ Wx.cell? ⟨w.heap.size, 5, none⟩ = some (.int .i64 C.tm.age) ∧ Wx.cell? ⟨w.heap.size, 6, none⟩ = some (.int .i64 C.tm.brake) ∧ Wx.cell? ⟨w.heap.size, 7, none⟩ = some (.int .i64 C.tm.hold) ∧ Wx.cell? ⟨w.heap.size, 8, none⟩ = some (.int .i64 C.tm.budget)) ∧ (Wx.cell? ⟨w.heap.size + 1, 0, none⟩ = some (.slice K.A1 K.own.length K.c1) ∧ Wx.cell? ⟨w.heap.size + 1, 1, none⟩ = some (.slice K.A2 K.rts.length K.c2) ∧ Wx.cell? ⟨w.heap.size + 1, 2, none⟩ = some (.slice K.A3 K.pts.length K.c3) ∧ Wx.cell? ⟨w.heap.size + 1, 3, none⟩ = some (.slice K.A4 K.crs.length K.c4) ∧ Wx.cell? ⟨w.heap.size + 1, 4, none⟩ = some (.slice K.A5 K.lns.length K.c5) ∧ Wx.cell? ⟨w.heap.size + 1, 5, none⟩ = some (.slice K.A6 K.rss.length K.c6) ∧ Wx.cell? ⟨w.heap.size + 1, 6, none⟩ = some (.bool K.dirty))) W) := Lib.hid fun W fW => ⟨conf_cells0 (HIC.out.fr fW id), core_cells (K := K) (HIK.out.fr fW id)⟩
   refine wp_region_held_drew (S := (fun Wx => (Wx.cell? ⟨w.heap.size, 0, none⟩ = some (.slice C.A1 C.l.length C.c1) ∧ Wx.cell? ⟨w.heap.size, 1, none⟩ = some (.slice C.A2 C.js.length C.c2) ∧ Wx.cell? ⟨w.heap.size, 2, none⟩ = some (.slice C.A3 C.sg.length C.c3) ∧ Wx.cell? ⟨w.heap.size, 3, none⟩ = some (.slice C.A4 C.cr.length C.c4) ∧ Wx.cell? ⟨w.heap.size, 4, none⟩ = some (.slice C.A5 C.rs.length C.c5) ∧ Wx.cell? ⟨w.heap.size, 5, none⟩ = some (.int .i64 C.tm.age) ∧ Wx.cell? ⟨w.heap.size, 6, none⟩ = some (.int .i64 C.tm.brake) ∧ Wx.cell? ⟨w.heap.size, 7, none⟩ = some (.int .i64 C.tm.hold) ∧ Wx.cell? ⟨w.heap.size, 8, none⟩ = some (.int .i64 C.tm.budget)) ∧ (Wx.cell? ⟨w.heap.size + 1, 0, none⟩ = some (.slice K.A1 K.own.length K.c1) ∧ Wx.cell? ⟨w.heap.size + 1, 1, none⟩ = some (.slice K.A2 K.rts.length K.c2) ∧ Wx.cell? ⟨w.heap.size + 1, 2, none⟩ = some (.slice K.A3 K.pts.length K.c3) ∧ Wx.cell? ⟨w.heap.size + 1, 3, none⟩ = some (.slice K.A4 K.crs.length K.c4) ∧ Wx.cell? ⟨w.heap.size + 1, 4, none⟩ = some (.slice K.A5 K.lns.length K.c5) ∧ Wx.cell? ⟨w.heap.size + 1, 5, none⟩ = some (.slice K.A6 K.rss.length K.c6) ∧ Wx.cell? ⟨w.heap.size + 1, 6, none⟩ = some (.bool K.dirty)))) (by kernel_rfl) (HS.out _ (Fr.refl _ w2).drew) (fun hHeld => ?_)
   refine wpAnyH_take (i := 0) (oi := { dst := some 25, op := _, type := _, pos := _, after := _, guard := _ }) (v := ?_) rfl (by kernel_rfl) (by kernel_rfl) (by kernel_rfl) (fun _ _ _ h => h) (Or.inl ⟨by rfl, ?_⟩) (by assumption) ?_
   rotate_left
   ·intro Wx hSw
    try dsimp only at hSw
    go_simp
    try with_reducible rfl
   try simp only [Act.put, List.setIfInBounds_toArray, List.set_cons_zero, List.set_cons_succ]
   refine wpAnyH_take (i := 2) (oi := { dst := some 27, op := _, type := _, pos := _, after := _, guard := _ }) (v := ?_) rfl (by kernel_rfl) (by kernel_rfl) (by kernel_rfl) (fun _ _ _ h => h) (Or.inl ⟨by rfl, ?_⟩) (by assumption) ?_
   rotate_left
   ·intro Wx hSw
    try dsimp only at hSw
    go_simp
    try with_reducible rfl
   try simp only [Act.put, List.setIfInBounds_toArray, List.set_cons_zero, List.set_cons_succ]
   refine wpAnyH_ready (rs := [1]) (by kernel_rfl) (by simp) (AllReadyH.cons rfl (fun KK hKK => ?_) AllReadyH.nil)
   go_simp
   refine (KO _ HF.out.drew).mono ?_
   rintro _ v3 ⟨K2, rfl, hk2, o2, fv⟩
   unfold Km.val Km.arr
   go_simp
   have HV := Lib.hid fv
   have HO := Lib.hid o2
   have HK2 := Lib.hid hk2
   clear fv o2 hk2
   refine hKK.out _ _ (HS.out _ ((Fr.refl _ w2).drew.trans HV.out fun _ _ e => e)) (fun hHeld => ?_)
   clear hKK KK
   refine wpAnyH_take (i := 3) (oi := { dst := some 28, op := _, type := _, pos := _, after := _, guard := _ }) (v := ?_) rfl (by kernel_rfl) (by kernel_rfl) (by kernel_rfl) (fun _ _ _ h => h) (Or.inl ⟨by rfl, ?_⟩) (by assumption) ?_
   rotate_left
   ·intro Wx hSw
    try dsimp only at hSw
    go_simp
    try with_reducible rfl
   try simp only [Act.put, List.setIfInBounds_toArray, List.set_cons_zero, List.set_cons_succ]
   refine wpAnyH_ready (rs := [4]) (by kernel_rfl) (by simp) (AllReadyH.cons rfl (fun KK hKK => ?_) AllReadyH.nil)
   go_simp
   have HA := Lib.hid ((Fr.refl (fun _ => False) v3).alloc (.cells #[.slice K2.A1 K2.own.length K2.c1, .slice K2.A2 K2.rts.length K2.c2, .slice K2.A3 K2.pts.length K2.c3, .slice K2.A4 K2.crs.length K2.c4, .slice K2.A5 K2.lns.length K2.c5, .slice K2.A6 K2.rss.length K2.c6, .bool K2.dirty, .slice C.A1 C.l.length C.c1, .slice C.A2 C.js.length C.c2, .slice C.A3 C.sg.length C.c3, .slice C.A4 C.cr.length C.c4, .slice C.A5 C.rs.length C.c5, .int .i64 C.tm.age, .int .i64 C.tm.brake, .int .i64 C.tm.hold, .int .i64 C.tm.budget] 183))
   refine hKK.out _ _ (HS.out _ (((Fr.refl _ w2).drew.trans HV.out fun _ _ e => e).trans HA.out fun _ _ e => e)) (fun hHeld => ?_)
   clear hKK KK
   refine wpAnyH_take (i := 5) (oi := { dst := some 10, op := _, type := _, pos := _, after := _, guard := _ }) (v := ?_) rfl (by kernel_rfl) (by kernel_rfl) (by kernel_rfl) (fun _ _ _ h => h) (Or.inl ⟨by rfl, ?_⟩) (by assumption) ?_
   rotate_left
   ·intro Wx hSw
    try dsimp only at hSw
    go_simp
    try with_reducible rfl
   try simp only [Act.put, List.setIfInBounds_toArray, List.set_cons_zero, List.set_cons_succ]
   refine wpAnyH_done (by kernel_rfl) ?_ _
   have HST : Hid (St w2.drew (v3.alloc (.cells #[.slice K2.A1 K2.own.length K2.c1, .slice K2.A2 K2.rts.length K2.c2, .slice K2.A3 K2.pts.length K2.c3, .slice K2.A4 K2.crs.length K2.c4, .slice K2.A5 K2.lns.length K2.c5, .slice K2.A6 K2.rss.length K2.c6, .bool K2.dirty, .slice C.A1 C.l.length C.c1, .slice C.A2 C.js.length C.c2, .slice C.A3 C.sg.length C.c3, .slice C.A4 C.cr.length C.c4, .slice C.A5 C.rs.length C.c5, .int .i64 C.tm.age, .int .i64 C.tm.brake, .int .i64 C.tm.hold, .int .i64 C.tm.budget] 183)) v3.heap.size K2 C) := Lib.hid ⟨Is.new v3 183 #[.slice K2.A1 K2.own.length K2.c1, .slice K2.A2 K2.rts.length K2.c2, .slice K2.A3 K2.pts.length K2.c3, .slice K2.A4 K2.crs.length K2.c4, .slice K2.A5 K2.lns.length K2.c5, .slice K2.A6 K2.rss.length K2.c6, .bool K2.dirty, .slice C.A1 C.l.length C.c1, .slice C.A2 C.js.length C.c2, .slice C.A3 C.sg.length C.c3, .slice C.A4 C.cr.length C.c4, .slice C.A5 C.rs.length C.c5, .int .i64 C.tm.age, .int .i64 C.tm.brake, .int .i64 C.tm.hold, .int .i64 C.tm.budget], HO.out.fr HA.out fun _ _ => id, HV.out.trans HA.out fun _ _ e => e, HV.out.size⟩
   generalize v3.alloc _ = v4 at *
   generalize v3.heap.size = sb at *
   have HX1 := HX.out w2.drew v4 sb K2 HF.out.drew HST.out HK2.out (by trivial) (by trivial)
   clear HX HA HO HV HS
   obtain ⟨xk, xe⟩ := x
   have hy := HY.out
   clear HY HK2 HST
   dsimp only at hy HX1
   by_cases he : xe = 0
   ·subst he
    rw [if_pos rfl] at hy
    subst hy
    clear KO
    go_wp2_with fail
    refine HX1.mono ?_
    rintro _ v5 ⟨rfl, K3, hk3, st⟩
    clear HX1
    dsimp only at hk3
    have FS := st.f
    have isr := (HIR.out.fr (Fr.refl (fun _ => False) w2).drew id).fr FS id
    obtain ⟨m0, m1, m2, m3, m4, m5, m6⟩ := seven isr
    have z0 := isr.frozen 0
    have z1 := isr.frozen 1
    have z2 := isr.frozen 2
    have z3 := isr.frozen 3
    have z4 := isr.frozen 4
    have z5 := isr.frozen 5
    have z6 := isr.frozen 6
    have s0 : v5.cell? ⟨sb, 0, none⟩ = some (.slice K3.A1 K3.own.length K3.c1) := st.is.cell 0
    have s1 : v5.cell? ⟨sb, 1, none⟩ = some (.slice K3.A2 K3.rts.length K3.c2) := st.is.cell 1
    have s2 : v5.cell? ⟨sb, 2, none⟩ = some (.slice K3.A3 K3.pts.length K3.c3) := st.is.cell 2
    have s3 : v5.cell? ⟨sb, 3, none⟩ = some (.slice K3.A4 K3.crs.length K3.c4) := st.is.cell 3
    have s4 : v5.cell? ⟨sb, 4, none⟩ = some (.slice K3.A5 K3.lns.length K3.c5) := st.is.cell 4
    have s5 : v5.cell? ⟨sb, 5, none⟩ = some (.slice K3.A6 K3.rss.length K3.c6) := st.is.cell 5
    have s6 : v5.cell? ⟨sb, 6, none⟩ = some (.bool K3.dirty) := st.is.cell 6
    have HS8 : Hid (w.heap.size + 3 ≤ w2.drew.heap.size) := Lib.hid (by simpa using HSZ.out)
    have HO2 := Lib.hid st.own
    have HK2 := Lib.hid hk3
    have HF9 := Lib.hid (HF.out.drew.trans FS fun _ _ e => e)
    generalize w2.drew = wd at *
    clear hk3 st FS
    go_wp2_with fail
    have isR := (((((((isr.set 0 (.slice K3.A1 K3.own.length K3.c1)).set 1 (.slice K3.A2 K3.rts.length K3.c2)).set 2 (.slice K3.A3 K3.pts.length K3.c3)).set 3 (.slice K3.A4 K3.crs.length K3.c4)).set 4 (.slice K3.A5 K3.lns.length K3.c5)).set 5 (.slice K3.A6 K3.rss.length K3.c6)).set 6 (.bool K3.dirty))
    have fR := ((((((((Fr.refl (fun q => q = w.heap.size + 1 + 1) v5).setCell (p := ⟨w.heap.size + 1 + 1, 0, none⟩) (.inl rfl) (.slice K3.A1 K3.own.length K3.c1)).setCell (p := ⟨w.heap.size + 1 + 1, 1, none⟩) (.inl rfl) (.slice K3.A2 K3.rts.length K3.c2)).setCell (p := ⟨w.heap.size + 1 + 1, 2, none⟩) (.inl rfl) (.slice K3.A3 K3.pts.length K3.c3)).setCell (p := ⟨w.heap.size + 1 + 1, 3, none⟩) (.inl rfl) (.slice K3.A4 K3.crs.length K3.c4)).setCell (p := ⟨w.heap.size + 1 + 1, 4, none⟩) (.inl rfl) (.slice K3.A5 K3.lns.length K3.c5)).setCell (p := ⟨w.heap.size + 1 + 1, 5, none⟩) (.inl rfl) (.slice K3.A6 K3.rss.length K3.c6)).setCell (p := ⟨w.heap.size + 1 + 1, 6, none⟩) (.inl rfl) (.bool K3.dirty))
    simp only [List.setIfInBounds_toArray, List.set_cons_zero, List.set_cons_succ] at isR
    generalize hW : World.setCell _ _ _ = W at *
    have c0 := isR.cell 0
    have c1 := isR.cell 1
    have c2 := isR.cell 2
    have c3 := isR.cell 3
    have c4 := isR.cell 4
    have c5 := isR.cell 5
    have c6 := isR.cell 6
    have HOW : K3.Own w.heap.size W := (HO2.out.fr fR fun k hk e => by have a := (HO2.out.lt k hk).1; have b := HS8.out; omega).base (by have b := HS8.out; omega)
    have FW : Fr (fun _ => False) w W := HF9.out.trans fR fun k hk e => by omega
    refine bodyPost_ret (v := .tuple #[K3.val, .int .i64 0]) ?_ rfl ⟨K3, rfl, HK2.out, HOW, FW⟩
    unfold Km.val Km.arr
    simp [results, Tryz.results84, go_sem, c0, c1, c2, c3, c4, c5, c6]
   ·rw [if_neg he] at hy
    subst hy
    have e1 : (xe == 0) = false := by simpa using he
    have e2 : decide (xe = 0) = false := by simpa using he
    go_wp2_with fail
    refine HX1.mono ?_
    rintro _ v5 ⟨rfl, K3, hk3, st⟩
    clear HX1
    have FS := st.f
    have isr := (HIR.out.fr (Fr.refl (fun _ => False) w2).drew id).fr FS id
    have isk := (HIK.out.fr (Fr.refl (fun _ => False) w2).drew id).fr FS id
    have F := HF.out.drew.trans FS fun _ _ e => e
    have HSZ : Hid (w.heap.size + 3 ≤ v5.heap.size) := Lib.hid (Nat.le_trans HSZ.out (by simpa using FS.size))
    clear FS st hk3
    dsimp only
    obtain ⟨k0, k1, k2, k3, k4, k5, k6⟩ := core_cells (K := K) isk
    go_wp2_with fail
    refine (KO _ F).mono ?_
    rintro _ v9 ⟨K2, rfl, hk2, o2, fv⟩
    have isr := isr.fr fv id
    have HS9 := Lib.hid (Nat.le_trans HSZ.out (show _ ≤ v9.heap.size from fv.size))
    have HS8 := HSZ
    have HO2 := Lib.hid o2
    have HK2 := Lib.hid hk2
    have HF9 := Lib.hid (fr_nil F fv)
    obtain ⟨m0, m1, m2, m3, m4, m5, m6⟩ := seven isr
    have z0 := isr.frozen 0
    have z1 := isr.frozen 1
    have z2 := isr.frozen 2
    have z3 := isr.frozen 3
    have z4 := isr.frozen 4
    have z5 := isr.frozen 5
    have z6 := isr.frozen 6
    clear o2 hk2 fv k0 k1 k2 k3 k4 k5 k6 F isk KO
    unfold Km.val Km.arr
    go_wp2_with fail
    have isR := (((((((isr.set 0 (.slice K2.A1 K2.own.length K2.c1)).set 1 (.slice K2.A2 K2.rts.length K2.c2)).set 2 (.slice K2.A3 K2.pts.length K2.c3)).set 3 (.slice K2.A4 K2.crs.length K2.c4)).set 4 (.slice K2.A5 K2.lns.length K2.c5)).set 5 (.slice K2.A6 K2.rss.length K2.c6)).set 6 (.bool K2.dirty))
    have fR := ((((((((Fr.refl (fun q => q = w.heap.size + 1 + 1) v9).setCell (p := ⟨w.heap.size + 1 + 1, 0, none⟩) (.inl rfl) (.slice K2.A1 K2.own.length K2.c1)).setCell (p := ⟨w.heap.size + 1 + 1, 1, none⟩) (.inl rfl) (.slice K2.A2 K2.rts.length K2.c2)).setCell (p := ⟨w.heap.size + 1 + 1, 2, none⟩) (.inl rfl) (.slice K2.A3 K2.pts.length K2.c3)).setCell (p := ⟨w.heap.size + 1 + 1, 3, none⟩) (.inl rfl) (.slice K2.A4 K2.crs.length K2.c4)).setCell (p := ⟨w.heap.size + 1 + 1, 4, none⟩) (.inl rfl) (.slice K2.A5 K2.lns.length K2.c5)).setCell (p := ⟨w.heap.size + 1 + 1, 5, none⟩) (.inl rfl) (.slice K2.A6 K2.rss.length K2.c6)).setCell (p := ⟨w.heap.size + 1 + 1, 6, none⟩) (.inl rfl) (.bool K2.dirty))
    simp only [List.setIfInBounds_toArray, List.set_cons_zero, List.set_cons_succ] at isR
    generalize hW : World.setCell _ _ _ = W at *
    have c0 := isR.cell 0
    have c1 := isR.cell 1
    have c2 := isR.cell 2
    have c3 := isR.cell 3
    have c4 := isR.cell 4
    have c5 := isR.cell 5
    have c6 := isR.cell 6
    have HOW : K2.Own w.heap.size W := (HO2.out.fr fR fun k hk e => by have a := (HO2.out.lt k hk).1; have b := HS8.out; omega).base (by have b := HS8.out; omega)
    have FW : Fr (fun _ => False) w W := HF9.out.trans fR fun k hk e => by omega
    refine bodyPost_ret (v := .tuple #[K2.val, .int .i64 xe]) ?_ rfl ⟨K2, rfl, HK2.out, HOW, FW⟩
    unfold Km.val Km.arr
    simp [results, Tryz.results84, go_sem, c0, c1, c2, c3, c4, c5, c6]
end Go.Proofs.YtginfnbdnkgjbaaGreat.Lk
namespace Go.Proofs.YtginfnbdnkgjbaaGreat.Lk
open Go.RowKit
set_option maxRecDepth 100000 in
set_option maxHeartbeats 8000000 in
theorem call_Cancel_any (C : Cm) (K : Km) (w : World) (hC : C.Ok w) (hK : K.Ok w) (now r : Int) :
  Calls Tryz.prog 35 #[C.val, K.val, .int .i64 now, .int .i64 r] w (AnsE w (gateM C.cf K.kp (tmB now) (goM C.cf K.kp now r [1, 2, 3]))) := by
 have HC := Lib.hid hC
 have HK := Lib.hid hK
 have HF0 := Lib.hid ((((((Fr.refl (fun _ => False) w).alloc (.cells C.arr 30)).alloc (.cells K.arr 35)).alloc (.cells #[.int .i64 now] 3)).alloc (.cells #[.int .i64 r] 3)).alloc (.cells #[.slice none 0 0, .slice none 0 0, .slice none 0 0, .slice none 0 0, .slice none 0 0, .slice none 0 0, .bool false] 35))
 have HIC := Lib.hid (((((Is.new w 30 C.arr).alloc (.cells K.arr 35)).alloc (.cells #[.int .i64 now] 3)).alloc (.cells #[.int .i64 r] 3)).alloc (.cells #[.slice none 0 0, .slice none 0 0, .slice none 0 0, .slice none 0 0, .slice none 0 0, .slice none 0 0, .bool false] 35))
 have HIK := Lib.hid ((((Is.new (w.alloc (.cells C.arr 30)) 35 K.arr).alloc (.cells #[.int .i64 now] 3)).alloc (.cells #[.int .i64 r] 3)).alloc (.cells #[.slice none 0 0, .slice none 0 0, .slice none 0 0, .slice none 0 0, .slice none 0 0, .slice none 0 0, .bool false] 35))
 rw [show (w.alloc (.cells C.arr 30)).heap.size = w.heap.size + 1 by simp] at HIK
 have HI0 := Lib.hid (((Is.new ((w.alloc (.cells C.arr 30)).alloc (.cells K.arr 35)) 3 #[.int .i64 now]).alloc (.cells #[.int .i64 r] 3)).alloc (.cells #[.slice none 0 0, .slice none 0 0, .slice none 0 0, .slice none 0 0, .slice none 0 0, .slice none 0 0, .bool false] 35))
 rw [show ((w.alloc (.cells C.arr 30)).alloc (.cells K.arr 35)).heap.size = w.heap.size + 1 + 1 by simp] at HI0
 have HI1 := Lib.hid ((Is.new (((w.alloc (.cells C.arr 30)).alloc (.cells K.arr 35)).alloc (.cells #[.int .i64 now] 3)) 3 #[.int .i64 r]).alloc (.cells #[.slice none 0 0, .slice none 0 0, .slice none 0 0, .slice none 0 0, .slice none 0 0, .slice none 0 0, .bool false] 35))
 rw [show (((w.alloc (.cells C.arr 30)).alloc (.cells K.arr 35)).alloc (.cells #[.int .i64 now] 3)).heap.size = w.heap.size + 1 + 1 + 1 by simp] at HI1
 have HIR := Lib.hid (Is.new ((((w.alloc (.cells C.arr 30)).alloc (.cells K.arr 35)).alloc (.cells #[.int .i64 now] 3)).alloc (.cells #[.int .i64 r] 3)) 35 #[.slice none 0 0, .slice none 0 0, .slice none 0 0, .slice none 0 0, .slice none 0 0, .slice none 0 0, .bool false])
 rw [show ((((w.alloc (.cells C.arr 30)).alloc (.cells K.arr 35)).alloc (.cells #[.int .i64 now] 3)).alloc (.cells #[.int .i64 r] 3)).heap.size = w.heap.size + 1 + 1 + 1 + 1 by simp] at HIR
 have hz : (((((w.alloc (.cells C.arr 30)).alloc (.cells K.arr 35)).alloc (.cells #[.int .i64 now] 3)).alloc (.cells #[.int .i64 r] 3)).alloc (.cells #[.slice none 0 0, .slice none 0 0, .slice none 0 0, .slice none 0 0, .slice none 0 0, .slice none 0 0, .bool false] 35)).heap.size = w.heap.size + 5 := by simp
 have HZ := Lib.hid hz
 clear hC hK hz
 have hCv : C.val = .agg C.arr := rfl
 rw [show gateM C.cf K.kp (tmB now) (goM C.cf K.kp now r [1, 2, 3]) = gateM C.cf K.kp ([now].all tmB) (if (goK K.rts.length K.kp now r [1, 2, 3]).2 = 0 then (goK K.rts.length K.kp now r [1, 2, 3]) else (K.kp, (goK K.rts.length K.kp now r [1, 2, 3]).2)) from gate_congr (by simp) (fun hf => by
  have a : K.rts.length = C.cf.rts.length := (fits_lens hf).2.1
  unfold goM goK
  rw [a]
  split
  ·simp
  ·split <;> simp)]
 have HY : ∃ y, y = gateM C.cf K.kp ([now].all tmB) (if (goK K.rts.length K.kp now r [1, 2, 3]).2 = 0 then (goK K.rts.length K.kp now r [1, 2, 3]) else (K.kp, (goK K.rts.length K.kp now r [1, 2, 3]).2)) := ⟨_, rfl⟩
 obtain ⟨y, hy⟩ := HY
 rw [← hy]
 have HY := Lib.hid hy
 clear hy hCv
 unfold Cm.val Km.val Cm.arr Km.arr at *
 go_enter Tryz.func35, Tryz.ntmps35
 go_upto_region 1 with (fail)
 have F := HF0.out
 have isIC := HIC.out
 have isIK := HIK.out
 have isI0 := HI0.out
 have isI1 := HI1.out
 have isIR := HIR.out
 have hz := HZ.out
 clear HF0 HIC HIK HI0 HI1 HIR HZ
 generalize (((((w.alloc _).alloc _).alloc _).alloc _).alloc _) = w0 at *
 have HIR := Lib.hid isIR
 have HF := Lib.hid F
 have HZ := Lib.hid hz
 have HI0 := Lib.hid isI0
 have HI1 := Lib.hid isI1
 have KA := answer_Cancel_any (ct := 1) C K (w0.alloc (.cells #[.int .i64 now] 3)) (HC.out.fr (F.alloc (.cells #[.int .i64 now] 3))) (HK.out.fr (F.alloc (.cells #[.int .i64 now] 3))) (.pointer (some ⟨w.heap.size + 1 + 1, 0, none⟩)) (.pointer (some ⟨w.heap.size + 1 + 1 + 1, 0, none⟩)) (goK K.rts.length K.kp now r [1, 2, 3]) (ts := [now]) (lit_rd_at rfl [.int .i64 now] 3) (by simp) ?_
 rotate_left
 ·intro wa W sb K' fa st hk hf ht
  have FW : Fr (fun _ => False) w0 W := (((Fr.refl (fun _ => False) w0).alloc (.cells #[.int .i64 now] 3)).trans fa fun _ _ e => e).trans st.f fun _ _ e => e
  have b0 : W.cell? ⟨w.heap.size + 1 + 1, 0, none⟩ = some (.int .i64 now) := (HI0.out.fr FW id).cell 0
  have b1 : W.cell? ⟨w.heap.size + 1 + 1 + 1, 0, none⟩ = some (.int .i64 r) := (HI1.out.fr FW id).cell 0
  have HST := Lib.hid st
  have HCW := Lib.hid (HC.out.fr (HF.out.trans FW fun _ _ e => e))
  have HFW := Lib.hid FW
  have hl1 : K'.rts.length = K.rts.length := congrArg (fun k : Kp => k.rts.length) hk
  have KR := letgo_any (ct := 3) (sts := [1, 2, 3]) (HST.out.fr ((Fr.refl (fun _ => False) W).alloc (.cells #[.int .i64 1, .int .i64 2, .int .i64 3] 3))) now r (lit_rd_at rfl [.int .i64 1, .int .i64 2, .int .i64 3] 3) (by decide)
  rw [hl1, hk] at KR
  clear hl1 hk hf ht fa st FW
  go_enter Tryz.func87, Tryz.ntmps87
  go_wp2_with fail
  refine KR.mono ?_
  rintro _ W1 ⟨rfl, L⟩
  have L := Lib.hid L
  go_wp2_with fail
  go_ret
  exact ⟨rfl, L.out⟩
 obtain ⟨p0, p1, p2, p3, p4, p5, p6, p7, p8⟩ := conf_cells0 isIC
 obtain ⟨k0, k1, k2, k3, k4, k5, k6⟩ := core_cells (K := K) isIK
 have b0 : w0.cell? ⟨w.heap.size + 1 + 1, 0, none⟩ = some (.int .i64 now) := isI0.cell 0
 have b1 : w0.cell? ⟨w.heap.size + 1 + 1 + 1, 0, none⟩ = some (.int .i64 r) := isI1.cell 0
 rw [← HY.out] at KA
 clear isIC isIK isI0 isI1 isIR F hz
 unfold Cm.val Km.val Cm.arr Km.arr at KA
 go_wp2_with fail
 refine KA.mono ?_
 rintro _ v9 ⟨K2, rfl, hk2, o2, fv⟩
 have isr := HIR.out.fr (((Fr.refl (fun _ => False) w0).alloc (.cells #[.int .i64 now] 3)).trans fv fun _ _ e => e) id
 obtain ⟨m0, m1, m2, m3, m4, m5, m6⟩ := seven isr
 have z0 := isr.frozen 0
 have z1 := isr.frozen 1
 have z2 := isr.frozen 2
 have z3 := isr.frozen 3
 have z4 := isr.frozen 4
 have z5 := isr.frozen 5
 have z6 := isr.frozen 6
 have HS8 : Hid (w.heap.size + 5 ≤ (w0.alloc (.cells #[.int .i64 now] 3)).heap.size) := Lib.hid (by have := HZ.out; simp only [World.size_alloc]; omega)
 have HO2 := Lib.hid o2
 have HK2 := Lib.hid hk2
 have HF9 := Lib.hid (HF.out.trans (((Fr.refl (fun _ => False) w0).alloc (.cells #[.int .i64 now] 3)).trans fv fun _ _ e => e) fun _ _ e => e)
 clear KA o2 hk2 fv b0 b1
 unfold Km.val Km.arr
 go_wp2_with fail
 have isR := (((((((isr.set 0 (.slice K2.A1 K2.own.length K2.c1)).set 1 (.slice K2.A2 K2.rts.length K2.c2)).set 2 (.slice K2.A3 K2.pts.length K2.c3)).set 3 (.slice K2.A4 K2.crs.length K2.c4)).set 4 (.slice K2.A5 K2.lns.length K2.c5)).set 5 (.slice K2.A6 K2.rss.length K2.c6)).set 6 (.bool K2.dirty))
 have fR := ((((((((Fr.refl (fun q => q = w.heap.size + 1 + 1 + 1 + 1) v9).setCell (p := ⟨w.heap.size + 1 + 1 + 1 + 1, 0, none⟩) (.inl rfl) (.slice K2.A1 K2.own.length K2.c1)).setCell (p := ⟨w.heap.size + 1 + 1 + 1 + 1, 1, none⟩) (.inl rfl) (.slice K2.A2 K2.rts.length K2.c2)).setCell (p := ⟨w.heap.size + 1 + 1 + 1 + 1, 2, none⟩) (.inl rfl) (.slice K2.A3 K2.pts.length K2.c3)).setCell (p := ⟨w.heap.size + 1 + 1 + 1 + 1, 3, none⟩) (.inl rfl) (.slice K2.A4 K2.crs.length K2.c4)).setCell (p := ⟨w.heap.size + 1 + 1 + 1 + 1, 4, none⟩) (.inl rfl) (.slice K2.A5 K2.lns.length K2.c5)).setCell (p := ⟨w.heap.size + 1 + 1 + 1 + 1, 5, none⟩) (.inl rfl) (.slice K2.A6 K2.rss.length K2.c6)).setCell (p := ⟨w.heap.size + 1 + 1 + 1 + 1, 6, none⟩) (.inl rfl) (.bool K2.dirty))
 simp only [List.setIfInBounds_toArray, List.set_cons_zero, List.set_cons_succ] at isR
 generalize hW : World.setCell _ _ _ = W at *
 have c0 := isR.cell 0
 have c1 := isR.cell 1
 have c2 := isR.cell 2
 have c3 := isR.cell 3
 have c4 := isR.cell 4
 have c5 := isR.cell 5
 have c6 := isR.cell 6
 have HOW : K2.Own w.heap.size W := (HO2.out.fr fR fun k hk e => by have a := (HO2.out.lt k hk).1; have b := HS8.out; omega).base (by have b := HS8.out; omega)
 have FW : Fr (fun _ => False) w W := HF9.out.trans fR fun k hk e => by omega
 refine bodyPost_ret (v := .tuple #[K2.val, .int .i64 y.2]) ?_ rfl ⟨K2, rfl, HK2.out, HOW, FW⟩
 unfold Km.val Km.arr
 simp [results, Tryz.results35, go_sem, c0, c1, c2, c3, c4, c5, c6]
end Go.Proofs.YtginfnbdnkgjbaaGreat.Lk
namespace Go.Proofs.YtginfnbdnkgjbaaGreat.Lk
open Go.RowKit
set_option maxRecDepth 100000 in
set_option maxHeartbeats 8000000 in
theorem answer_Release_any (C : Cm) (K : Km) (w : World) (hC : C.Ok w) (hK : K.Ok w) (u1 u2 : Value) (x : Kp × Int) {At : Option Addr} {ct : Nat} {ts : List Int} (ht : Rd w At (ts.map (Value.int .i64))) (hl : ts.length ≤ 9223372036854775807)
  (hx : ∀ w0 W sb K', Fr (fun _ => False) w w0 → St w0 W sb K' C → K'.kp = K.kp → fitsB C.cf K.kp = true → ts.all tmB = true → Calls Tryz.prog 122 #[.pointer (some ⟨sb, 0, none⟩), u1, u2] W (Left w0 sb C x)) :
  Calls Tryz.prog 84 #[C.val, K.val, .func (.func 122) #[] #[u1, u2], .slice At ts.length ct] w (AnsE w (gateM C.cf K.kp (ts.all tmB) (if x.2 = 0 then x else (K.kp, x.2)))) := by
 have KF := fun W (f : Fr (fun _ => False) w W) => fits_any C K W (hC.fr f) (hK.fr f)
 have KO := fun W (f : Fr (fun _ => False) w W) => copied_any K W (hK.fr f)
 have KW : ∀ W, Fr (fun _ => False) w W → Calls Tryz.prog 79 #[.int .i64 0, .int .i64 4294967295, .slice At ts.length ct] W fun e w' => e = .returned (.bool (ts.all tmB)) ∧ Fr (fun _ => False) W w' := fun W (f : Fr (fun _ => False) w W) => within_any (c := ct) 0 4294967295 ts W (ht.fr f fun _ _ => id) hl
 have HX := Lib.hid hx
 have HF0 := Lib.hid ((((Fr.refl (fun _ => False) w).alloc (.cells C.arr 30)).alloc (.cells K.arr 35)).alloc (.cells #[.slice none 0 0, .slice none 0 0, .slice none 0 0, .slice none 0 0, .slice none 0 0, .slice none 0 0, .bool false] 35))
 have HIC := Lib.hid (((Is.new w 30 C.arr).alloc (.cells K.arr 35)).alloc (.cells #[.slice none 0 0, .slice none 0 0, .slice none 0 0, .slice none 0 0, .slice none 0 0, .slice none 0 0, .bool false] 35))
 have HIK := Lib.hid ((Is.new (w.alloc (.cells C.arr 30)) 35 K.arr).alloc (.cells #[.slice none 0 0, .slice none 0 0, .slice none 0 0, .slice none 0 0, .slice none 0 0, .slice none 0 0, .bool false] 35))
 have HIR := Lib.hid (Is.new ((w.alloc (.cells C.arr 30)).alloc (.cells K.arr 35)) 35 #[.slice none 0 0, .slice none 0 0, .slice none 0 0, .slice none 0 0, .slice none 0 0, .slice none 0 0, .bool false])
 have hz : (((w.alloc (.cells C.arr 30)).alloc (.cells K.arr 35)).alloc (.cells #[.slice none 0 0, .slice none 0 0, .slice none 0 0, .slice none 0 0, .slice none 0 0, .slice none 0 0, .bool false] 35)).heap.size = w.heap.size + 3 := by simp
 rw [show ((w.alloc (.cells C.arr 30)).alloc (.cells K.arr 35)).heap.size = w.heap.size + 1 + 1 by simp] at HIR
 rw [show (w.alloc (.cells C.arr 30)).heap.size = w.heap.size + 1 by simp] at HIK
 have HZ := Lib.hid hz
 clear hx hC hK ht hz
 unfold gateM
 unfold Cm.val Km.val Cm.arr Km.arr at *
 generalize hy : (if x.2 = 0 then x else (K.kp, x.2)) = y
 have HY := Lib.hid hy
 clear hy
 generalize fitsB C.cf K.kp = b at *
 cases b
 ·rw [if_pos rfl]
  clear KW HX
  go_enter Tryz.func84, Tryz.ntmps84
  go_upto_region 1 with (fail)
  have F := HF0.out
  have isc := HIC.out
  have isk := HIK.out
  have isr := HIR.out
  have hz := HZ.out
  clear HF0 HIC HIK HIR HZ
  generalize (((w.alloc _).alloc _).alloc _) = w0 at *
  have HSZ := Lib.hid (Nat.le_of_eq hz.symm)
  clear hz
  obtain ⟨p0, p1, p2, p3, p4, p5, p6, p7, p8⟩ := conf_cells0 isc
  obtain ⟨k0, k1, k2, k3, k4, k5, k6⟩ := core_cells (K := K) isk
  go_wp2_with fail
  refine (KF _ F).mono ?_
  rintro _ w1 ⟨rfl, fv⟩
  have isc := isc.fr fv id
  have isk := isk.fr fv id
  have isr := isr.fr fv id
  have F := fr_nil F fv
  have HSZ := Lib.hid (Nat.le_trans HSZ.out fv.size)
  clear fv KF p0 p1 p2 p3 p4 p5 p6 p7 p8 k0 k1 k2 k3 k4 k5 k6
  obtain ⟨k0, k1, k2, k3, k4, k5, k6⟩ := core_cells (K := K) isk
  go_wp2_with fail
  refine (KO _ F).mono ?_
  rintro _ v9 ⟨K2, rfl, hk2, o2, fv⟩
  have isr := isr.fr fv id
  have HS9 := Lib.hid (Nat.le_trans HSZ.out (show _ ≤ v9.heap.size from fv.size))
  have HS8 := HSZ
  have HO2 := Lib.hid o2
  have HK2 := Lib.hid hk2
  have HF9 := Lib.hid (fr_nil F fv)
  obtain ⟨m0, m1, m2, m3, m4, m5, m6⟩ := seven isr
  have z0 := isr.frozen 0
  have z1 := isr.frozen 1
  have z2 := isr.frozen 2
  have z3 := isr.frozen 3
  have z4 := isr.frozen 4
  have z5 := isr.frozen 5
  have z6 := isr.frozen 6
  clear o2 hk2 fv k0 k1 k2 k3 k4 k5 k6 F isk KO
  unfold Km.val Km.arr
  go_wp2_with fail
  have isR := (((((((isr.set 0 (.slice K2.A1 K2.own.length K2.c1)).set 1 (.slice K2.A2 K2.rts.length K2.c2)).set 2 (.slice K2.A3 K2.pts.length K2.c3)).set 3 (.slice K2.A4 K2.crs.length K2.c4)).set 4 (.slice K2.A5 K2.lns.length K2.c5)).set 5 (.slice K2.A6 K2.rss.length K2.c6)).set 6 (.bool K2.dirty))
  have fR := ((((((((Fr.refl (fun q => q = w.heap.size + 1 + 1) v9).setCell (p := ⟨w.heap.size + 1 + 1, 0, none⟩) (.inl rfl) (.slice K2.A1 K2.own.length K2.c1)).setCell (p := ⟨w.heap.size + 1 + 1, 1, none⟩) (.inl rfl) (.slice K2.A2 K2.rts.length K2.c2)).setCell (p := ⟨w.heap.size + 1 + 1, 2, none⟩) (.inl rfl) (.slice K2.A3 K2.pts.length K2.c3)).setCell (p := ⟨w.heap.size + 1 + 1, 3, none⟩) (.inl rfl) (.slice K2.A4 K2.crs.length K2.c4)).setCell (p := ⟨w.heap.size + 1 + 1, 4, none⟩) (.inl rfl) (.slice K2.A5 K2.lns.length K2.c5)).setCell (p := ⟨w.heap.size + 1 + 1, 5, none⟩) (.inl rfl) (.slice K2.A6 K2.rss.length K2.c6)).setCell (p := ⟨w.heap.size + 1 + 1, 6, none⟩) (.inl rfl) (.bool K2.dirty))
  simp only [List.setIfInBounds_toArray, List.set_cons_zero, List.set_cons_succ] at isR
  generalize hW : World.setCell _ _ _ = W at *
  have c0 := isR.cell 0
  have c1 := isR.cell 1
  have c2 := isR.cell 2
  have c3 := isR.cell 3
  have c4 := isR.cell 4
  have c5 := isR.cell 5
  have c6 := isR.cell 6
  have HOW : K2.Own w.heap.size W := (HO2.out.fr fR fun k hk e => by have a := (HO2.out.lt k hk).1; have b := HS8.out; omega).base (by have b := HS8.out; omega)
  have FW : Fr (fun _ => False) w W := HF9.out.trans fR fun k hk e => by omega
  refine bodyPost_ret (v := .tuple #[K2.val, .int .i64 21]) ?_ rfl ⟨K2, rfl, HK2.out, HOW, FW⟩
  unfold Km.val Km.arr
  simp [results, Tryz.results84, go_sem, c0, c1, c2, c3, c4, c5, c6]
 ·rw [if_neg (by decide)]
  generalize ts.all tmB = d at *
  cases d
  ·rw [if_pos rfl]
   clear HX
   go_enter Tryz.func84, Tryz.ntmps84
   go_upto_region 1 with (fail)
   have F := HF0.out
   have isc := HIC.out
   have isk := HIK.out
   have isr := HIR.out
   have hz := HZ.out
   clear HF0 HIC HIK HIR HZ
   generalize (((w.alloc _).alloc _).alloc _) = w0 at *
   have HSZ := Lib.hid (Nat.le_of_eq hz.symm)
   clear hz
   obtain ⟨p0, p1, p2, p3, p4, p5, p6, p7, p8⟩ := conf_cells0 isc
   obtain ⟨k0, k1, k2, k3, k4, k5, k6⟩ := core_cells (K := K) isk
   go_wp2_with fail
   refine (KF _ F).mono ?_
   rintro _ w1 ⟨rfl, fv⟩
   have isc := isc.fr fv id
   have isk := isk.fr fv id
   have isr := isr.fr fv id
   have F := fr_nil F fv
   have HSZ := Lib.hid (Nat.le_trans HSZ.out fv.size)
   clear fv KF p0 p1 p2 p3 p4 p5 p6 p7 p8 k0 k1 k2 k3 k4 k5 k6
   go_wp2_with fail
   refine (KW _ F).mono ?_
   rintro _ w2 ⟨rfl, fv⟩
   have isk := isk.fr fv id
   have isr := isr.fr fv id
   have F := fr_nil F fv
   have HSZ := Lib.hid (Nat.le_trans HSZ.out fv.size)
   clear fv KW isc
   obtain ⟨k0, k1, k2, k3, k4, k5, k6⟩ := core_cells (K := K) isk
   go_wp2_with fail
   refine (KO _ F).mono ?_
   rintro _ v9 ⟨K2, rfl, hk2, o2, fv⟩
   have isr := isr.fr fv id
   have HS9 := Lib.hid (Nat.le_trans HSZ.out (show _ ≤ v9.heap.size from fv.size))
   have HS8 := HSZ
   have HO2 := Lib.hid o2
   have HK2 := Lib.hid hk2
   have HF9 := Lib.hid (fr_nil F fv)
   obtain ⟨m0, m1, m2, m3, m4, m5, m6⟩ := seven isr
   have z0 := isr.frozen 0
   have z1 := isr.frozen 1
   have z2 := isr.frozen 2
   have z3 := isr.frozen 3
   have z4 := isr.frozen 4
   have z5 := isr.frozen 5
   have z6 := isr.frozen 6
   clear o2 hk2 fv k0 k1 k2 k3 k4 k5 k6 F isk KO
   unfold Km.val Km.arr
   go_wp2_with fail
   have isR := (((((((isr.set 0 (.slice K2.A1 K2.own.length K2.c1)).set 1 (.slice K2.A2 K2.rts.length K2.c2)).set 2 (.slice K2.A3 K2.pts.length K2.c3)).set 3 (.slice K2.A4 K2.crs.length K2.c4)).set 4 (.slice K2.A5 K2.lns.length K2.c5)).set 5 (.slice K2.A6 K2.rss.length K2.c6)).set 6 (.bool K2.dirty))
   have fR := ((((((((Fr.refl (fun q => q = w.heap.size + 1 + 1) v9).setCell (p := ⟨w.heap.size + 1 + 1, 0, none⟩) (.inl rfl) (.slice K2.A1 K2.own.length K2.c1)).setCell (p := ⟨w.heap.size + 1 + 1, 1, none⟩) (.inl rfl) (.slice K2.A2 K2.rts.length K2.c2)).setCell (p := ⟨w.heap.size + 1 + 1, 2, none⟩) (.inl rfl) (.slice K2.A3 K2.pts.length K2.c3)).setCell (p := ⟨w.heap.size + 1 + 1, 3, none⟩) (.inl rfl) (.slice K2.A4 K2.crs.length K2.c4)).setCell (p := ⟨w.heap.size + 1 + 1, 4, none⟩) (.inl rfl) (.slice K2.A5 K2.lns.length K2.c5)).setCell (p := ⟨w.heap.size + 1 + 1, 5, none⟩) (.inl rfl) (.slice K2.A6 K2.rss.length K2.c6)).setCell (p := ⟨w.heap.size + 1 + 1, 6, none⟩) (.inl rfl) (.bool K2.dirty))
   simp only [List.setIfInBounds_toArray, List.set_cons_zero, List.set_cons_succ] at isR
   generalize hW : World.setCell _ _ _ = W at *
   have c0 := isR.cell 0
   have c1 := isR.cell 1
   have c2 := isR.cell 2
   have c3 := isR.cell 3
   have c4 := isR.cell 4
   have c5 := isR.cell 5
   have c6 := isR.cell 6
   have HOW : K2.Own w.heap.size W := (HO2.out.fr fR fun k hk e => by have a := (HO2.out.lt k hk).1; have b := HS8.out; omega).base (by have b := HS8.out; omega)
   have FW : Fr (fun _ => False) w W := HF9.out.trans fR fun k hk e => by omega
   refine bodyPost_ret (v := .tuple #[K2.val, .int .i64 32]) ?_ rfl ⟨K2, rfl, HK2.out, HOW, FW⟩
   unfold Km.val Km.arr
   simp [results, Tryz.results84, go_sem, c0, c1, c2, c3, c4, c5, c6]
  ·rw [if_neg (by decide)]
   go_enter Tryz.func84, Tryz.ntmps84
   go_upto_region 1 with (fail)
   have F := HF0.out
   have isc := HIC.out
   have isk := HIK.out
   have isr := HIR.out
   have hz := HZ.out
   clear HF0 HIC HIK HIR HZ
   generalize (((w.alloc _).alloc _).alloc _) = w0 at *
   have HSZ := Lib.hid (Nat.le_of_eq hz.symm)
   clear hz
   obtain ⟨p0, p1, p2, p3, p4, p5, p6, p7, p8⟩ := conf_cells0 isc
   obtain ⟨k0, k1, k2, k3, k4, k5, k6⟩ := core_cells (K := K) isk
   go_wp2_with fail
   refine (KF _ F).mono ?_
   rintro _ w1 ⟨rfl, fv⟩
   have isc := isc.fr fv id
   have isk := isk.fr fv id
   have isr := isr.fr fv id
   have F := fr_nil F fv
   have HSZ := Lib.hid (Nat.le_trans HSZ.out fv.size)
   clear fv KF p0 p1 p2 p3 p4 p5 p6 p7 p8 k0 k1 k2 k3 k4 k5 k6
   go_wp2_with fail
   refine (KW _ F).mono ?_
   rintro _ w2 ⟨rfl, fv⟩
   have isc := isc.fr fv id
   have isk := isk.fr fv id
   have isr := isr.fr fv id
   have F := fr_nil F fv
   have HSZ := Lib.hid (Nat.le_trans HSZ.out fv.size)
   clear fv KW
   go_upto_region 5 with (fail)
   have HIC := Lib.hid isc
   have HIK := Lib.hid isk
   have HIR := Lib.hid isr
   have HF := Lib.hid F
   clear isc isk isr F
   have HS : Hid (∀ W, Fr (fun _ => False) w2 W → (fun Wx => (Wx.cell? ⟨w.heap.size, 0, none⟩ = some (.slice C.A1 C.l.length C.c1) ∧ Wx.cell? ⟨w.heap.size, 1, none⟩ = some (.slice C.A2 C.js.length C.c2) ∧ Wx.cell? ⟨w.heap.size, 2, none⟩ = some (.slice C.A3 C.sg.length C.c3) ∧ Wx.cell? ⟨w.heap.size, 3, none⟩ = some (.slice C.A4 C.cr.length C.c4) ∧ Wx.cell? ⟨w.heap.size, 4, none⟩ = some (.slice C.A5 C.rs.length C.c5) ∧ Wx.cell? ⟨w.heap.size, 5, none⟩ = some (.int .i64 C.tm.age) ∧ Wx.cell? ⟨w.heap.size, 6, none⟩ = some (.int .i64 C.tm.brake) ∧ Wx.cell? ⟨w.heap.size, 7, none⟩ = some (.int .i64 C.tm.hold) ∧ Wx.cell? ⟨w.heap.size, 8, none⟩ = some (.int .i64 C.tm.budget)) ∧ (Wx.cell? ⟨w.heap.size + 1, 0, none⟩ = some (.slice K.A1 K.own.length K.c1) ∧ Wx.cell? ⟨w.heap.size + 1, 1, none⟩ = some (.slice K.A2 K.rts.length K.c2) ∧ Wx.cell? ⟨w.heap.size + 1, 2, none⟩ = some (.slice K.A3 K.pts.length K.c3) ∧ Wx.cell? ⟨w.heap.size + 1, 3, none⟩ = some (.slice K.A4 K.crs.length K.c4) ∧ Wx.cell? ⟨w.heap.size + 1, 4, none⟩ = some (.slice K.A5 K.lns.length K.c5) ∧ Wx.cell? ⟨w.heap.size + 1, 5, none⟩ = some (.slice K.A6 K.rss.length K.c6) ∧ Wx.cell? ⟨w.heap.size + 1, 6, none⟩ = some (.bool K.dirty))) W) := Lib.hid fun W fW => ⟨conf_cells0 (HIC.out.fr fW id), core_cells (K := K) (HIK.out.fr fW id)⟩
   refine wp_region_held_drew (S := (fun Wx => (Wx.cell? ⟨w.heap.size, 0, none⟩ = some (.slice C.A1 C.l.length C.c1) ∧ Wx.cell? ⟨w.heap.size, 1, none⟩ = some (.slice C.A2 C.js.length C.c2) ∧ Wx.cell? ⟨w.heap.size, 2, none⟩ = some (.slice C.A3 C.sg.length C.c3) ∧ Wx.cell? ⟨w.heap.size, 3, none⟩ = some (.slice C.A4 C.cr.length C.c4) ∧ Wx.cell? ⟨w.heap.size, 4, none⟩ = some (.slice C.A5 C.rs.length C.c5) ∧ Wx.cell? ⟨w.heap.size, 5, none⟩ = some (.int .i64 C.tm.age) ∧ Wx.cell? ⟨w.heap.size, 6, none⟩ = some (.int .i64 C.tm.brake) ∧ Wx.cell? ⟨w.heap.size, 7, none⟩ = some (.int .i64 C.tm.hold) ∧ Wx.cell? ⟨w.heap.size, 8, none⟩ = some (.int .i64 C.tm.budget)) ∧ (Wx.cell? ⟨w.heap.size + 1, 0, none⟩ = some (.slice K.A1 K.own.length K.c1) ∧ Wx.cell? ⟨w.heap.size + 1, 1, none⟩ = some (.slice K.A2 K.rts.length K.c2) ∧ Wx.cell? ⟨w.heap.size + 1, 2, none⟩ = some (.slice K.A3 K.pts.length K.c3) ∧ Wx.cell? ⟨w.heap.size + 1, 3, none⟩ = some (.slice K.A4 K.crs.length K.c4) ∧ Wx.cell? ⟨w.heap.size + 1, 4, none⟩ = some (.slice K.A5 K.lns.length K.c5) ∧ Wx.cell? ⟨w.heap.size + 1, 5, none⟩ = some (.slice K.A6 K.rss.length K.c6) ∧ Wx.cell? ⟨w.heap.size + 1, 6, none⟩ = some (.bool K.dirty)))) (by kernel_rfl) (HS.out _ (Fr.refl _ w2).drew) (fun hHeld => ?_)
   refine wpAnyH_take (i := 0) (oi := { dst := some 25, op := _, type := _, pos := _, after := _, guard := _ }) (v := ?_) rfl (by kernel_rfl) (by kernel_rfl) (by kernel_rfl) (fun _ _ _ h => h) (Or.inl ⟨by rfl, ?_⟩) (by assumption) ?_
   rotate_left
   ·intro Wx hSw
    try dsimp only at hSw
    go_simp
    try with_reducible rfl
   try simp only [Act.put, List.setIfInBounds_toArray, List.set_cons_zero, List.set_cons_succ]
   refine wpAnyH_take (i := 2) (oi := { dst := some 27, op := _, type := _, pos := _, after := _, guard := _ }) (v := ?_) rfl (by kernel_rfl) (by kernel_rfl) (by kernel_rfl) (fun _ _ _ h => h) (Or.inl ⟨by rfl, ?_⟩) (by assumption) ?_
   rotate_left
   ·intro Wx hSw
    try dsimp only at hSw
    go_simp
    try with_reducible rfl
   try simp only [Act.put, List.setIfInBounds_toArray, List.set_cons_zero, List.set_cons_succ]
   refine wpAnyH_ready (rs := [1]) (by kernel_rfl) (by simp) (AllReadyH.cons rfl (fun KK hKK => ?_) AllReadyH.nil)
   go_simp
   refine (KO _ HF.out.drew).mono ?_
   rintro _ v3 ⟨K2, rfl, hk2, o2, fv⟩
   unfold Km.val Km.arr
   go_simp
   have HV := Lib.hid fv
   have HO := Lib.hid o2
   have HK2 := Lib.hid hk2
   clear fv o2 hk2
   refine hKK.out _ _ (HS.out _ ((Fr.refl _ w2).drew.trans HV.out fun _ _ e => e)) (fun hHeld => ?_)
   clear hKK KK
   refine wpAnyH_take (i := 3) (oi := { dst := some 28, op := _, type := _, pos := _, after := _, guard := _ }) (v := ?_) rfl (by kernel_rfl) (by kernel_rfl) (by kernel_rfl) (fun _ _ _ h => h) (Or.inl ⟨by rfl, ?_⟩) (by assumption) ?_
   rotate_left
   ·intro Wx hSw
    try dsimp only at hSw
    go_simp
    try with_reducible rfl
   try simp only [Act.put, List.setIfInBounds_toArray, List.set_cons_zero, List.set_cons_succ]
   refine wpAnyH_ready (rs := [4]) (by kernel_rfl) (by simp) (AllReadyH.cons rfl (fun KK hKK => ?_) AllReadyH.nil)
   go_simp
   have HA := Lib.hid ((Fr.refl (fun _ => False) v3).alloc (.cells #[.slice K2.A1 K2.own.length K2.c1, .slice K2.A2 K2.rts.length K2.c2, .slice K2.A3 K2.pts.length K2.c3, .slice K2.A4 K2.crs.length K2.c4, .slice K2.A5 K2.lns.length K2.c5, .slice K2.A6 K2.rss.length K2.c6, .bool K2.dirty, .slice C.A1 C.l.length C.c1, .slice C.A2 C.js.length C.c2, .slice C.A3 C.sg.length C.c3, .slice C.A4 C.cr.length C.c4, .slice C.A5 C.rs.length C.c5, .int .i64 C.tm.age, .int .i64 C.tm.brake, .int .i64 C.tm.hold, .int .i64 C.tm.budget] 183))
   refine hKK.out _ _ (HS.out _ (((Fr.refl _ w2).drew.trans HV.out fun _ _ e => e).trans HA.out fun _ _ e => e)) (fun hHeld => ?_)
   clear hKK KK
   refine wpAnyH_take (i := 5) (oi := { dst := some 10, op := _, type := _, pos := _, after := _, guard := _ }) (v := ?_) rfl (by kernel_rfl) (by kernel_rfl) (by kernel_rfl) (fun _ _ _ h => h) (Or.inl ⟨by rfl, ?_⟩) (by assumption) ?_
   rotate_left
   ·intro Wx hSw
    try dsimp only at hSw
    go_simp
    try with_reducible rfl
   try simp only [Act.put, List.setIfInBounds_toArray, List.set_cons_zero, List.set_cons_succ]
   refine wpAnyH_done (by kernel_rfl) ?_ _
   have HST : Hid (St w2.drew (v3.alloc (.cells #[.slice K2.A1 K2.own.length K2.c1, .slice K2.A2 K2.rts.length K2.c2, .slice K2.A3 K2.pts.length K2.c3, .slice K2.A4 K2.crs.length K2.c4, .slice K2.A5 K2.lns.length K2.c5, .slice K2.A6 K2.rss.length K2.c6, .bool K2.dirty, .slice C.A1 C.l.length C.c1, .slice C.A2 C.js.length C.c2, .slice C.A3 C.sg.length C.c3, .slice C.A4 C.cr.length C.c4, .slice C.A5 C.rs.length C.c5, .int .i64 C.tm.age, .int .i64 C.tm.brake, .int .i64 C.tm.hold, .int .i64 C.tm.budget] 183)) v3.heap.size K2 C) := Lib.hid ⟨Is.new v3 183 #[.slice K2.A1 K2.own.length K2.c1, .slice K2.A2 K2.rts.length K2.c2, .slice K2.A3 K2.pts.length K2.c3, .slice K2.A4 K2.crs.length K2.c4, .slice K2.A5 K2.lns.length K2.c5, .slice K2.A6 K2.rss.length K2.c6, .bool K2.dirty, .slice C.A1 C.l.length C.c1, .slice C.A2 C.js.length C.c2, .slice C.A3 C.sg.length C.c3, .slice C.A4 C.cr.length C.c4, .slice C.A5 C.rs.length C.c5, .int .i64 C.tm.age, .int .i64 C.tm.brake, .int .i64 C.tm.hold, .int .i64 C.tm.budget], HO.out.fr HA.out fun _ _ => id, HV.out.trans HA.out fun _ _ e => e, HV.out.size⟩
   generalize v3.alloc _ = v4 at *
   generalize v3.heap.size = sb at *
   have HX1 := HX.out w2.drew v4 sb K2 HF.out.drew HST.out HK2.out (by trivial) (by trivial)
   clear HX HA HO HV HS
   obtain ⟨xk, xe⟩ := x
   have hy := HY.out
   clear HY HK2 HST
   dsimp only at hy HX1
   by_cases he : xe = 0
   ·subst he
    rw [if_pos rfl] at hy
    subst hy
    clear KO
    go_wp2_with fail
    refine HX1.mono ?_
    rintro _ v5 ⟨rfl, K3, hk3, st⟩
    clear HX1
    dsimp only at hk3
    have FS := st.f
    have isr := (HIR.out.fr (Fr.refl (fun _ => False) w2).drew id).fr FS id
    obtain ⟨m0, m1, m2, m3, m4, m5, m6⟩ := seven isr
    have z0 := isr.frozen 0
    have z1 := isr.frozen 1
    have z2 := isr.frozen 2
    have z3 := isr.frozen 3
    have z4 := isr.frozen 4
    have z5 := isr.frozen 5
    have z6 := isr.frozen 6
    have s0 : v5.cell? ⟨sb, 0, none⟩ = some (.slice K3.A1 K3.own.length K3.c1) := st.is.cell 0
    have s1 : v5.cell? ⟨sb, 1, none⟩ = some (.slice K3.A2 K3.rts.length K3.c2) := st.is.cell 1
    have s2 : v5.cell? ⟨sb, 2, none⟩ = some (.slice K3.A3 K3.pts.length K3.c3) := st.is.cell 2
    have s3 : v5.cell? ⟨sb, 3, none⟩ = some (.slice K3.A4 K3.crs.length K3.c4) := st.is.cell 3
    have s4 : v5.cell? ⟨sb, 4, none⟩ = some (.slice K3.A5 K3.lns.length K3.c5) := st.is.cell 4
    have s5 : v5.cell? ⟨sb, 5, none⟩ = some (.slice K3.A6 K3.rss.length K3.c6) := st.is.cell 5
    have s6 : v5.cell? ⟨sb, 6, none⟩ = some (.bool K3.dirty) := st.is.cell 6
    have HS8 : Hid (w.heap.size + 3 ≤ w2.drew.heap.size) := Lib.hid (by simpa using HSZ.out)
    have HO2 := Lib.hid st.own
    have HK2 := Lib.hid hk3
    have HF9 := Lib.hid (HF.out.drew.trans FS fun _ _ e => e)
    generalize w2.drew = wd at *
    clear hk3 st FS
    go_wp2_with fail
    have isR := (((((((isr.set 0 (.slice K3.A1 K3.own.length K3.c1)).set 1 (.slice K3.A2 K3.rts.length K3.c2)).set 2 (.slice K3.A3 K3.pts.length K3.c3)).set 3 (.slice K3.A4 K3.crs.length K3.c4)).set 4 (.slice K3.A5 K3.lns.length K3.c5)).set 5 (.slice K3.A6 K3.rss.length K3.c6)).set 6 (.bool K3.dirty))
    have fR := ((((((((Fr.refl (fun q => q = w.heap.size + 1 + 1) v5).setCell (p := ⟨w.heap.size + 1 + 1, 0, none⟩) (.inl rfl) (.slice K3.A1 K3.own.length K3.c1)).setCell (p := ⟨w.heap.size + 1 + 1, 1, none⟩) (.inl rfl) (.slice K3.A2 K3.rts.length K3.c2)).setCell (p := ⟨w.heap.size + 1 + 1, 2, none⟩) (.inl rfl) (.slice K3.A3 K3.pts.length K3.c3)).setCell (p := ⟨w.heap.size + 1 + 1, 3, none⟩) (.inl rfl) (.slice K3.A4 K3.crs.length K3.c4)).setCell (p := ⟨w.heap.size + 1 + 1, 4, none⟩) (.inl rfl) (.slice K3.A5 K3.lns.length K3.c5)).setCell (p := ⟨w.heap.size + 1 + 1, 5, none⟩) (.inl rfl) (.slice K3.A6 K3.rss.length K3.c6)).setCell (p := ⟨w.heap.size + 1 + 1, 6, none⟩) (.inl rfl) (.bool K3.dirty))
    simp only [List.setIfInBounds_toArray, List.set_cons_zero, List.set_cons_succ] at isR
    generalize hW : World.setCell _ _ _ = W at *
    have c0 := isR.cell 0
    have c1 := isR.cell 1
    have c2 := isR.cell 2
    have c3 := isR.cell 3
    have c4 := isR.cell 4
    have c5 := isR.cell 5
    have c6 := isR.cell 6
    have HOW : K3.Own w.heap.size W := (HO2.out.fr fR fun k hk e => by have a := (HO2.out.lt k hk).1; have b := HS8.out; omega).base (by have b := HS8.out; omega)
    have FW : Fr (fun _ => False) w W := HF9.out.trans fR fun k hk e => by omega
    refine bodyPost_ret (v := .tuple #[K3.val, .int .i64 0]) ?_ rfl ⟨K3, rfl, HK2.out, HOW, FW⟩
    unfold Km.val Km.arr
    simp [results, Tryz.results84, go_sem, c0, c1, c2, c3, c4, c5, c6]
   ·rw [if_neg he] at hy
    subst hy
    have e1 : (xe == 0) = false := by simpa using he
    have e2 : decide (xe = 0) = false := by simpa using he
    go_wp2_with fail
    refine HX1.mono ?_
    rintro _ v5 ⟨rfl, K3, hk3, st⟩
    clear HX1
    have FS := st.f
    have isr := (HIR.out.fr (Fr.refl (fun _ => False) w2).drew id).fr FS id
    have isk := (HIK.out.fr (Fr.refl (fun _ => False) w2).drew id).fr FS id
    have F := HF.out.drew.trans FS fun _ _ e => e
    have HSZ : Hid (w.heap.size + 3 ≤ v5.heap.size) := Lib.hid (Nat.le_trans HSZ.out (by simpa using FS.size))
    clear FS st hk3
    dsimp only
    obtain ⟨k0, k1, k2, k3, k4, k5, k6⟩ := core_cells (K := K) isk
    go_wp2_with fail
    refine (KO _ F).mono ?_
    rintro _ v9 ⟨K2, rfl, hk2, o2, fv⟩
    have isr := isr.fr fv id
    have HS9 := Lib.hid (Nat.le_trans HSZ.out (show _ ≤ v9.heap.size from fv.size))
    have HS8 := HSZ
    have HO2 := Lib.hid o2
    have HK2 := Lib.hid hk2
    have HF9 := Lib.hid (fr_nil F fv)
    obtain ⟨m0, m1, m2, m3, m4, m5, m6⟩ := seven isr
    have z0 := isr.frozen 0
    have z1 := isr.frozen 1
    have z2 := isr.frozen 2
    have z3 := isr.frozen 3
    have z4 := isr.frozen 4
    have z5 := isr.frozen 5
    have z6 := isr.frozen 6
    clear o2 hk2 fv k0 k1 k2 k3 k4 k5 k6 F isk KO
    unfold Km.val Km.arr
    go_wp2_with fail
    have isR := (((((((isr.set 0 (.slice K2.A1 K2.own.length K2.c1)).set 1 (.slice K2.A2 K2.rts.length K2.c2)).set 2 (.slice K2.A3 K2.pts.length K2.c3)).set 3 (.slice K2.A4 K2.crs.length K2.c4)).set 4 (.slice K2.A5 K2.lns.length K2.c5)).set 5 (.slice K2.A6 K2.rss.length K2.c6)).set 6 (.bool K2.dirty))
    have fR := ((((((((Fr.refl (fun q => q = w.heap.size + 1 + 1) v9).setCell (p := ⟨w.heap.size + 1 + 1, 0, none⟩) (.inl rfl) (.slice K2.A1 K2.own.length K2.c1)).setCell (p := ⟨w.heap.size + 1 + 1, 1, none⟩) (.inl rfl) (.slice K2.A2 K2.rts.length K2.c2)).setCell (p := ⟨w.heap.size + 1 + 1, 2, none⟩) (.inl rfl) (.slice K2.A3 K2.pts.length K2.c3)).setCell (p := ⟨w.heap.size + 1 + 1, 3, none⟩) (.inl rfl) (.slice K2.A4 K2.crs.length K2.c4)).setCell (p := ⟨w.heap.size + 1 + 1, 4, none⟩) (.inl rfl) (.slice K2.A5 K2.lns.length K2.c5)).setCell (p := ⟨w.heap.size + 1 + 1, 5, none⟩) (.inl rfl) (.slice K2.A6 K2.rss.length K2.c6)).setCell (p := ⟨w.heap.size + 1 + 1, 6, none⟩) (.inl rfl) (.bool K2.dirty))
    simp only [List.setIfInBounds_toArray, List.set_cons_zero, List.set_cons_succ] at isR
    generalize hW : World.setCell _ _ _ = W at *
    have c0 := isR.cell 0
    have c1 := isR.cell 1
    have c2 := isR.cell 2
    have c3 := isR.cell 3
    have c4 := isR.cell 4
    have c5 := isR.cell 5
    have c6 := isR.cell 6
    have HOW : K2.Own w.heap.size W := (HO2.out.fr fR fun k hk e => by have a := (HO2.out.lt k hk).1; have b := HS8.out; omega).base (by have b := HS8.out; omega)
    have FW : Fr (fun _ => False) w W := HF9.out.trans fR fun k hk e => by omega
    refine bodyPost_ret (v := .tuple #[K2.val, .int .i64 xe]) ?_ rfl ⟨K2, rfl, HK2.out, HOW, FW⟩
    unfold Km.val Km.arr
    simp [results, Tryz.results84, go_sem, c0, c1, c2, c3, c4, c5, c6]
end Go.Proofs.YtginfnbdnkgjbaaGreat.Lk
namespace Go.Proofs.YtginfnbdnkgjbaaGreat.Lk
open Go.RowKit
set_option maxRecDepth 100000 in
set_option maxHeartbeats 8000000 in
theorem call_Release_any (C : Cm) (K : Km) (w : World) (hC : C.Ok w) (hK : K.Ok w) (now r : Int) :
  Calls Tryz.prog 50 #[C.val, K.val, .int .i64 now, .int .i64 r] w (AnsE w (gateM C.cf K.kp (tmB now) (goM C.cf K.kp now r [5]))) := by
 have HC := Lib.hid hC
 have HK := Lib.hid hK
 have HF0 := Lib.hid ((((((Fr.refl (fun _ => False) w).alloc (.cells C.arr 30)).alloc (.cells K.arr 35)).alloc (.cells #[.int .i64 now] 3)).alloc (.cells #[.int .i64 r] 3)).alloc (.cells #[.slice none 0 0, .slice none 0 0, .slice none 0 0, .slice none 0 0, .slice none 0 0, .slice none 0 0, .bool false] 35))
 have HIC := Lib.hid (((((Is.new w 30 C.arr).alloc (.cells K.arr 35)).alloc (.cells #[.int .i64 now] 3)).alloc (.cells #[.int .i64 r] 3)).alloc (.cells #[.slice none 0 0, .slice none 0 0, .slice none 0 0, .slice none 0 0, .slice none 0 0, .slice none 0 0, .bool false] 35))
 have HIK := Lib.hid ((((Is.new (w.alloc (.cells C.arr 30)) 35 K.arr).alloc (.cells #[.int .i64 now] 3)).alloc (.cells #[.int .i64 r] 3)).alloc (.cells #[.slice none 0 0, .slice none 0 0, .slice none 0 0, .slice none 0 0, .slice none 0 0, .slice none 0 0, .bool false] 35))
 rw [show (w.alloc (.cells C.arr 30)).heap.size = w.heap.size + 1 by simp] at HIK
 have HI0 := Lib.hid (((Is.new ((w.alloc (.cells C.arr 30)).alloc (.cells K.arr 35)) 3 #[.int .i64 now]).alloc (.cells #[.int .i64 r] 3)).alloc (.cells #[.slice none 0 0, .slice none 0 0, .slice none 0 0, .slice none 0 0, .slice none 0 0, .slice none 0 0, .bool false] 35))
 rw [show ((w.alloc (.cells C.arr 30)).alloc (.cells K.arr 35)).heap.size = w.heap.size + 1 + 1 by simp] at HI0
 have HI1 := Lib.hid ((Is.new (((w.alloc (.cells C.arr 30)).alloc (.cells K.arr 35)).alloc (.cells #[.int .i64 now] 3)) 3 #[.int .i64 r]).alloc (.cells #[.slice none 0 0, .slice none 0 0, .slice none 0 0, .slice none 0 0, .slice none 0 0, .slice none 0 0, .bool false] 35))
 rw [show (((w.alloc (.cells C.arr 30)).alloc (.cells K.arr 35)).alloc (.cells #[.int .i64 now] 3)).heap.size = w.heap.size + 1 + 1 + 1 by simp] at HI1
 have HIR := Lib.hid (Is.new ((((w.alloc (.cells C.arr 30)).alloc (.cells K.arr 35)).alloc (.cells #[.int .i64 now] 3)).alloc (.cells #[.int .i64 r] 3)) 35 #[.slice none 0 0, .slice none 0 0, .slice none 0 0, .slice none 0 0, .slice none 0 0, .slice none 0 0, .bool false])
 rw [show ((((w.alloc (.cells C.arr 30)).alloc (.cells K.arr 35)).alloc (.cells #[.int .i64 now] 3)).alloc (.cells #[.int .i64 r] 3)).heap.size = w.heap.size + 1 + 1 + 1 + 1 by simp] at HIR
 have hz : (((((w.alloc (.cells C.arr 30)).alloc (.cells K.arr 35)).alloc (.cells #[.int .i64 now] 3)).alloc (.cells #[.int .i64 r] 3)).alloc (.cells #[.slice none 0 0, .slice none 0 0, .slice none 0 0, .slice none 0 0, .slice none 0 0, .slice none 0 0, .bool false] 35)).heap.size = w.heap.size + 5 := by simp
 have HZ := Lib.hid hz
 clear hC hK hz
 have hCv : C.val = .agg C.arr := rfl
 rw [show gateM C.cf K.kp (tmB now) (goM C.cf K.kp now r [5]) = gateM C.cf K.kp ([now].all tmB) (if (goK K.rts.length K.kp now r [5]).2 = 0 then (goK K.rts.length K.kp now r [5]) else (K.kp, (goK K.rts.length K.kp now r [5]).2)) from gate_congr (by simp) (fun hf => by
  have a : K.rts.length = C.cf.rts.length := (fits_lens hf).2.1
  unfold goM goK
  rw [a]
  split
  ·simp
  ·split <;> simp)]
 have HY : ∃ y, y = gateM C.cf K.kp ([now].all tmB) (if (goK K.rts.length K.kp now r [5]).2 = 0 then (goK K.rts.length K.kp now r [5]) else (K.kp, (goK K.rts.length K.kp now r [5]).2)) := ⟨_, rfl⟩
 obtain ⟨y, hy⟩ := HY
 rw [← hy]
 have HY := Lib.hid hy
 clear hy hCv
 unfold Cm.val Km.val Cm.arr Km.arr at *
 go_enter Tryz.func50, Tryz.ntmps50
 go_upto_region 1 with (fail)
 have F := HF0.out
 have isIC := HIC.out
 have isIK := HIK.out
 have isI0 := HI0.out
 have isI1 := HI1.out
 have isIR := HIR.out
 have hz := HZ.out
 clear HF0 HIC HIK HI0 HI1 HIR HZ
 generalize (((((w.alloc _).alloc _).alloc _).alloc _).alloc _) = w0 at *
 have HIR := Lib.hid isIR
 have HF := Lib.hid F
 have HZ := Lib.hid hz
 have HI0 := Lib.hid isI0
 have HI1 := Lib.hid isI1
 have KA := answer_Release_any (ct := 1) C K (w0.alloc (.cells #[.int .i64 now] 3)) (HC.out.fr (F.alloc (.cells #[.int .i64 now] 3))) (HK.out.fr (F.alloc (.cells #[.int .i64 now] 3))) (.pointer (some ⟨w.heap.size + 1 + 1, 0, none⟩)) (.pointer (some ⟨w.heap.size + 1 + 1 + 1, 0, none⟩)) (goK K.rts.length K.kp now r [5]) (ts := [now]) (lit_rd_at rfl [.int .i64 now] 3) (by simp) ?_
 rotate_left
 ·intro wa W sb K' fa st hk hf ht
  have FW : Fr (fun _ => False) w0 W := (((Fr.refl (fun _ => False) w0).alloc (.cells #[.int .i64 now] 3)).trans fa fun _ _ e => e).trans st.f fun _ _ e => e
  have b0 : W.cell? ⟨w.heap.size + 1 + 1, 0, none⟩ = some (.int .i64 now) := (HI0.out.fr FW id).cell 0
  have b1 : W.cell? ⟨w.heap.size + 1 + 1 + 1, 0, none⟩ = some (.int .i64 r) := (HI1.out.fr FW id).cell 0
  have HST := Lib.hid st
  have HCW := Lib.hid (HC.out.fr (HF.out.trans FW fun _ _ e => e))
  have HFW := Lib.hid FW
  have hl1 : K'.rts.length = K.rts.length := congrArg (fun k : Kp => k.rts.length) hk
  have KR := letgo_any (ct := 1) (sts := [5]) (HST.out.fr ((Fr.refl (fun _ => False) W).alloc (.cells #[.int .i64 5] 3))) now r (lit_rd_at rfl [.int .i64 5] 3) (by decide)
  rw [hl1, hk] at KR
  clear hl1 hk hf ht fa st FW
  go_enter Tryz.func122, Tryz.ntmps122
  go_wp2_with fail
  refine KR.mono ?_
  rintro _ W1 ⟨rfl, L⟩
  have L := Lib.hid L
  go_wp2_with fail
  go_ret
  exact ⟨rfl, L.out⟩
 obtain ⟨p0, p1, p2, p3, p4, p5, p6, p7, p8⟩ := conf_cells0 isIC
 obtain ⟨k0, k1, k2, k3, k4, k5, k6⟩ := core_cells (K := K) isIK
 have b0 : w0.cell? ⟨w.heap.size + 1 + 1, 0, none⟩ = some (.int .i64 now) := isI0.cell 0
 have b1 : w0.cell? ⟨w.heap.size + 1 + 1 + 1, 0, none⟩ = some (.int .i64 r) := isI1.cell 0
 rw [← HY.out] at KA
 clear isIC isIK isI0 isI1 isIR F hz
 unfold Cm.val Km.val Cm.arr Km.arr at KA
 go_wp2_with fail
 refine KA.mono ?_
 rintro _ v9 ⟨K2, rfl, hk2, o2, fv⟩
 have isr := HIR.out.fr (((Fr.refl (fun _ => False) w0).alloc (.cells #[.int .i64 now] 3)).trans fv fun _ _ e => e) id
 obtain ⟨m0, m1, m2, m3, m4, m5, m6⟩ := seven isr
 have z0 := isr.frozen 0
 have z1 := isr.frozen 1
 have z2 := isr.frozen 2
 have z3 := isr.frozen 3
 have z4 := isr.frozen 4
 have z5 := isr.frozen 5
 have z6 := isr.frozen 6
 have HS8 : Hid (w.heap.size + 5 ≤ (w0.alloc (.cells #[.int .i64 now] 3)).heap.size) := Lib.hid (by have := HZ.out; simp only [World.size_alloc]; omega)
 have HO2 := Lib.hid o2
 have HK2 := Lib.hid hk2
 have HF9 := Lib.hid (HF.out.trans (((Fr.refl (fun _ => False) w0).alloc (.cells #[.int .i64 now] 3)).trans fv fun _ _ e => e) fun _ _ e => e)
 clear KA o2 hk2 fv b0 b1
 unfold Km.val Km.arr
 go_wp2_with fail
 have isR := (((((((isr.set 0 (.slice K2.A1 K2.own.length K2.c1)).set 1 (.slice K2.A2 K2.rts.length K2.c2)).set 2 (.slice K2.A3 K2.pts.length K2.c3)).set 3 (.slice K2.A4 K2.crs.length K2.c4)).set 4 (.slice K2.A5 K2.lns.length K2.c5)).set 5 (.slice K2.A6 K2.rss.length K2.c6)).set 6 (.bool K2.dirty))
 have fR := ((((((((Fr.refl (fun q => q = w.heap.size + 1 + 1 + 1 + 1) v9).setCell (p := ⟨w.heap.size + 1 + 1 + 1 + 1, 0, none⟩) (.inl rfl) (.slice K2.A1 K2.own.length K2.c1)).setCell (p := ⟨w.heap.size + 1 + 1 + 1 + 1, 1, none⟩) (.inl rfl) (.slice K2.A2 K2.rts.length K2.c2)).setCell (p := ⟨w.heap.size + 1 + 1 + 1 + 1, 2, none⟩) (.inl rfl) (.slice K2.A3 K2.pts.length K2.c3)).setCell (p := ⟨w.heap.size + 1 + 1 + 1 + 1, 3, none⟩) (.inl rfl) (.slice K2.A4 K2.crs.length K2.c4)).setCell (p := ⟨w.heap.size + 1 + 1 + 1 + 1, 4, none⟩) (.inl rfl) (.slice K2.A5 K2.lns.length K2.c5)).setCell (p := ⟨w.heap.size + 1 + 1 + 1 + 1, 5, none⟩) (.inl rfl) (.slice K2.A6 K2.rss.length K2.c6)).setCell (p := ⟨w.heap.size + 1 + 1 + 1 + 1, 6, none⟩) (.inl rfl) (.bool K2.dirty))
 simp only [List.setIfInBounds_toArray, List.set_cons_zero, List.set_cons_succ] at isR
 generalize hW : World.setCell _ _ _ = W at *
 have c0 := isR.cell 0
 have c1 := isR.cell 1
 have c2 := isR.cell 2
 have c3 := isR.cell 3
 have c4 := isR.cell 4
 have c5 := isR.cell 5
 have c6 := isR.cell 6
 have HOW : K2.Own w.heap.size W := (HO2.out.fr fR fun k hk e => by have a := (HO2.out.lt k hk).1; have b := HS8.out; omega).base (by have b := HS8.out; omega)
 have FW : Fr (fun _ => False) w W := HF9.out.trans fR fun k hk e => by omega
 refine bodyPost_ret (v := .tuple #[K2.val, .int .i64 y.2]) ?_ rfl ⟨K2, rfl, HK2.out, HOW, FW⟩
 unfold Km.val Km.arr
 simp [results, Tryz.results50, go_sem, c0, c1, c2, c3, c4, c5, c6]
end Go.Proofs.YtginfnbdnkgjbaaGreat.Lk
namespace Go.Proofs.YtginfnbdnkgjbaaGreat.Lk
open Go.RowKit
set_option maxRecDepth 100000 in
set_option maxHeartbeats 8000000 in
theorem answer_Restore_any (C : Cm) (K : Km) (w : World) (hC : C.Ok w) (hK : K.Ok w) (u1 : Value) (x : Kp × Int) {At : Option Addr} {ct : Nat} {ts : List Int} (ht : Rd w At (ts.map (Value.int .i64))) (hl : ts.length ≤ 9223372036854775807)
  (hx : ∀ w0 W sb K', Fr (fun _ => False) w w0 → St w0 W sb K' C → K'.kp = K.kp → fitsB C.cf K.kp = true → ts.all tmB = true → Calls Tryz.prog 120 #[.pointer (some ⟨sb, 0, none⟩), u1] W (Left w0 sb C x)) :
  Calls Tryz.prog 84 #[C.val, K.val, .func (.func 120) #[] #[u1], .slice At ts.length ct] w (AnsE w (gateM C.cf K.kp (ts.all tmB) (if x.2 = 0 then x else (K.kp, x.2)))) := by
 have KF := fun W (f : Fr (fun _ => False) w W) => fits_any C K W (hC.fr f) (hK.fr f)
 have KO := fun W (f : Fr (fun _ => False) w W) => copied_any K W (hK.fr f)
 have KW : ∀ W, Fr (fun _ => False) w W → Calls Tryz.prog 79 #[.int .i64 0, .int .i64 4294967295, .slice At ts.length ct] W fun e w' => e = .returned (.bool (ts.all tmB)) ∧ Fr (fun _ => False) W w' := fun W (f : Fr (fun _ => False) w W) => within_any (c := ct) 0 4294967295 ts W (ht.fr f fun _ _ => id) hl
 have HX := Lib.hid hx
 have HF0 := Lib.hid ((((Fr.refl (fun _ => False) w).alloc (.cells C.arr 30)).alloc (.cells K.arr 35)).alloc (.cells #[.slice none 0 0, .slice none 0 0, .slice none 0 0, .slice none 0 0, .slice none 0 0, .slice none 0 0, .bool false] 35))
 have HIC := Lib.hid (((Is.new w 30 C.arr).alloc (.cells K.arr 35)).alloc (.cells #[.slice none 0 0, .slice none 0 0, .slice none 0 0, .slice none 0 0, .slice none 0 0, .slice none 0 0, .bool false] 35))
 have HIK := Lib.hid ((Is.new (w.alloc (.cells C.arr 30)) 35 K.arr).alloc (.cells #[.slice none 0 0, .slice none 0 0, .slice none 0 0, .slice none 0 0, .slice none 0 0, .slice none 0 0, .bool false] 35))
 have HIR := Lib.hid (Is.new ((w.alloc (.cells C.arr 30)).alloc (.cells K.arr 35)) 35 #[.slice none 0 0, .slice none 0 0, .slice none 0 0, .slice none 0 0, .slice none 0 0, .slice none 0 0, .bool false])
 have hz : (((w.alloc (.cells C.arr 30)).alloc (.cells K.arr 35)).alloc (.cells #[.slice none 0 0, .slice none 0 0, .slice none 0 0, .slice none 0 0, .slice none 0 0, .slice none 0 0, .bool false] 35)).heap.size = w.heap.size + 3 := by simp
 rw [show ((w.alloc (.cells C.arr 30)).alloc (.cells K.arr 35)).heap.size = w.heap.size + 1 + 1 by simp] at HIR
 rw [show (w.alloc (.cells C.arr 30)).heap.size = w.heap.size + 1 by simp] at HIK
 have HZ := Lib.hid hz
 clear hx hC hK ht hz
 unfold gateM
 unfold Cm.val Km.val Cm.arr Km.arr at *
 generalize hy : (if x.2 = 0 then x else (K.kp, x.2)) = y
 have HY := Lib.hid hy
 clear hy
 generalize fitsB C.cf K.kp = b at *
 cases b
 ·rw [if_pos rfl]
  clear KW HX
  go_enter Tryz.func84, Tryz.ntmps84
  go_upto_region 1 with (fail)
  have F := HF0.out
  have isc := HIC.out
  have isk := HIK.out
  have isr := HIR.out
  have hz := HZ.out
  clear HF0 HIC HIK HIR HZ
  generalize (((w.alloc _).alloc _).alloc _) = w0 at *
  have HSZ := Lib.hid (Nat.le_of_eq hz.symm)
  clear hz
  obtain ⟨p0, p1, p2, p3, p4, p5, p6, p7, p8⟩ := conf_cells0 isc
  obtain ⟨k0, k1, k2, k3, k4, k5, k6⟩ := core_cells (K := K) isk
  go_wp2_with fail
  refine (KF _ F).mono ?_
  rintro _ w1 ⟨rfl, fv⟩
  have isc := isc.fr fv id
  have isk := isk.fr fv id
  have isr := isr.fr fv id
  have F := fr_nil F fv
  have HSZ := Lib.hid (Nat.le_trans HSZ.out fv.size)
  clear fv KF p0 p1 p2 p3 p4 p5 p6 p7 p8 k0 k1 k2 k3 k4 k5 k6
  obtain ⟨k0, k1, k2, k3, k4, k5, k6⟩ := core_cells (K := K) isk
  go_wp2_with fail
  refine (KO _ F).mono ?_
  rintro _ v9 ⟨K2, rfl, hk2, o2, fv⟩
  have isr := isr.fr fv id
  have HS9 := Lib.hid (Nat.le_trans HSZ.out (show _ ≤ v9.heap.size from fv.size))
  have HS8 := HSZ
  have HO2 := Lib.hid o2
  have HK2 := Lib.hid hk2
  have HF9 := Lib.hid (fr_nil F fv)
  obtain ⟨m0, m1, m2, m3, m4, m5, m6⟩ := seven isr
  have z0 := isr.frozen 0
  have z1 := isr.frozen 1
  have z2 := isr.frozen 2
  have z3 := isr.frozen 3
  have z4 := isr.frozen 4
  have z5 := isr.frozen 5
  have z6 := isr.frozen 6
  clear o2 hk2 fv k0 k1 k2 k3 k4 k5 k6 F isk KO
  unfold Km.val Km.arr
  go_wp2_with fail
  have isR := (((((((isr.set 0 (.slice K2.A1 K2.own.length K2.c1)).set 1 (.slice K2.A2 K2.rts.length K2.c2)).set 2 (.slice K2.A3 K2.pts.length K2.c3)).set 3 (.slice K2.A4 K2.crs.length K2.c4)).set 4 (.slice K2.A5 K2.lns.length K2.c5)).set 5 (.slice K2.A6 K2.rss.length K2.c6)).set 6 (.bool K2.dirty))
  have fR := ((((((((Fr.refl (fun q => q = w.heap.size + 1 + 1) v9).setCell (p := ⟨w.heap.size + 1 + 1, 0, none⟩) (.inl rfl) (.slice K2.A1 K2.own.length K2.c1)).setCell (p := ⟨w.heap.size + 1 + 1, 1, none⟩) (.inl rfl) (.slice K2.A2 K2.rts.length K2.c2)).setCell (p := ⟨w.heap.size + 1 + 1, 2, none⟩) (.inl rfl) (.slice K2.A3 K2.pts.length K2.c3)).setCell (p := ⟨w.heap.size + 1 + 1, 3, none⟩) (.inl rfl) (.slice K2.A4 K2.crs.length K2.c4)).setCell (p := ⟨w.heap.size + 1 + 1, 4, none⟩) (.inl rfl) (.slice K2.A5 K2.lns.length K2.c5)).setCell (p := ⟨w.heap.size + 1 + 1, 5, none⟩) (.inl rfl) (.slice K2.A6 K2.rss.length K2.c6)).setCell (p := ⟨w.heap.size + 1 + 1, 6, none⟩) (.inl rfl) (.bool K2.dirty))
  simp only [List.setIfInBounds_toArray, List.set_cons_zero, List.set_cons_succ] at isR
  generalize hW : World.setCell _ _ _ = W at *
  have c0 := isR.cell 0
  have c1 := isR.cell 1
  have c2 := isR.cell 2
  have c3 := isR.cell 3
  have c4 := isR.cell 4
  have c5 := isR.cell 5
  have c6 := isR.cell 6
  have HOW : K2.Own w.heap.size W := (HO2.out.fr fR fun k hk e => by have a := (HO2.out.lt k hk).1; have b := HS8.out; omega).base (by have b := HS8.out; omega)
  have FW : Fr (fun _ => False) w W := HF9.out.trans fR fun k hk e => by omega
  refine bodyPost_ret (v := .tuple #[K2.val, .int .i64 21]) ?_ rfl ⟨K2, rfl, HK2.out, HOW, FW⟩
  unfold Km.val Km.arr
  simp [results, Tryz.results84, go_sem, c0, c1, c2, c3, c4, c5, c6]
 ·rw [if_neg (by decide)]
  generalize ts.all tmB = d at *
  cases d
  ·rw [if_pos rfl]
   clear HX
   go_enter Tryz.func84, Tryz.ntmps84
   go_upto_region 1 with (fail)
   have F := HF0.out
   have isc := HIC.out
   have isk := HIK.out
   have isr := HIR.out
   have hz := HZ.out
   clear HF0 HIC HIK HIR HZ
   generalize (((w.alloc _).alloc _).alloc _) = w0 at *
   have HSZ := Lib.hid (Nat.le_of_eq hz.symm)
   clear hz
   obtain ⟨p0, p1, p2, p3, p4, p5, p6, p7, p8⟩ := conf_cells0 isc
   obtain ⟨k0, k1, k2, k3, k4, k5, k6⟩ := core_cells (K := K) isk
   go_wp2_with fail
   refine (KF _ F).mono ?_
   rintro _ w1 ⟨rfl, fv⟩
   have isc := isc.fr fv id
   have isk := isk.fr fv id
   have isr := isr.fr fv id
   have F := fr_nil F fv
   have HSZ := Lib.hid (Nat.le_trans HSZ.out fv.size)
   clear fv KF p0 p1 p2 p3 p4 p5 p6 p7 p8 k0 k1 k2 k3 k4 k5 k6
   go_wp2_with fail
   refine (KW _ F).mono ?_
   rintro _ w2 ⟨rfl, fv⟩
   have isk := isk.fr fv id
   have isr := isr.fr fv id
   have F := fr_nil F fv
   have HSZ := Lib.hid (Nat.le_trans HSZ.out fv.size)
   clear fv KW isc
   obtain ⟨k0, k1, k2, k3, k4, k5, k6⟩ := core_cells (K := K) isk
   go_wp2_with fail
   refine (KO _ F).mono ?_
   rintro _ v9 ⟨K2, rfl, hk2, o2, fv⟩
   have isr := isr.fr fv id
   have HS9 := Lib.hid (Nat.le_trans HSZ.out (show _ ≤ v9.heap.size from fv.size))
   have HS8 := HSZ
   have HO2 := Lib.hid o2
   have HK2 := Lib.hid hk2
   have HF9 := Lib.hid (fr_nil F fv)
   obtain ⟨m0, m1, m2, m3, m4, m5, m6⟩ := seven isr
   have z0 := isr.frozen 0
   have z1 := isr.frozen 1
   have z2 := isr.frozen 2
   have z3 := isr.frozen 3
   have z4 := isr.frozen 4
   have z5 := isr.frozen 5
   have z6 := isr.frozen 6
   clear o2 hk2 fv k0 k1 k2 k3 k4 k5 k6 F isk KO
   unfold Km.val Km.arr
   go_wp2_with fail
   have isR := (((((((isr.set 0 (.slice K2.A1 K2.own.length K2.c1)).set 1 (.slice K2.A2 K2.rts.length K2.c2)).set 2 (.slice K2.A3 K2.pts.length K2.c3)).set 3 (.slice K2.A4 K2.crs.length K2.c4)).set 4 (.slice K2.A5 K2.lns.length K2.c5)).set 5 (.slice K2.A6 K2.rss.length K2.c6)).set 6 (.bool K2.dirty))
   have fR := ((((((((Fr.refl (fun q => q = w.heap.size + 1 + 1) v9).setCell (p := ⟨w.heap.size + 1 + 1, 0, none⟩) (.inl rfl) (.slice K2.A1 K2.own.length K2.c1)).setCell (p := ⟨w.heap.size + 1 + 1, 1, none⟩) (.inl rfl) (.slice K2.A2 K2.rts.length K2.c2)).setCell (p := ⟨w.heap.size + 1 + 1, 2, none⟩) (.inl rfl) (.slice K2.A3 K2.pts.length K2.c3)).setCell (p := ⟨w.heap.size + 1 + 1, 3, none⟩) (.inl rfl) (.slice K2.A4 K2.crs.length K2.c4)).setCell (p := ⟨w.heap.size + 1 + 1, 4, none⟩) (.inl rfl) (.slice K2.A5 K2.lns.length K2.c5)).setCell (p := ⟨w.heap.size + 1 + 1, 5, none⟩) (.inl rfl) (.slice K2.A6 K2.rss.length K2.c6)).setCell (p := ⟨w.heap.size + 1 + 1, 6, none⟩) (.inl rfl) (.bool K2.dirty))
   simp only [List.setIfInBounds_toArray, List.set_cons_zero, List.set_cons_succ] at isR
   generalize hW : World.setCell _ _ _ = W at *
   have c0 := isR.cell 0
   have c1 := isR.cell 1
   have c2 := isR.cell 2
   have c3 := isR.cell 3
   have c4 := isR.cell 4
   have c5 := isR.cell 5
   have c6 := isR.cell 6
   have HOW : K2.Own w.heap.size W := (HO2.out.fr fR fun k hk e => by have a := (HO2.out.lt k hk).1; have b := HS8.out; omega).base (by have b := HS8.out; omega)
   have FW : Fr (fun _ => False) w W := HF9.out.trans fR fun k hk e => by omega
   refine bodyPost_ret (v := .tuple #[K2.val, .int .i64 32]) ?_ rfl ⟨K2, rfl, HK2.out, HOW, FW⟩
   unfold Km.val Km.arr
   simp [results, Tryz.results84, go_sem, c0, c1, c2, c3, c4, c5, c6]
  ·rw [if_neg (by decide)]
   go_enter Tryz.func84, Tryz.ntmps84
   go_upto_region 1 with (fail)
   have F := HF0.out
   have isc := HIC.out
   have isk := HIK.out
   have isr := HIR.out
   have hz := HZ.out
   clear HF0 HIC HIK HIR HZ
   generalize (((w.alloc _).alloc _).alloc _) = w0 at *
   have HSZ := Lib.hid (Nat.le_of_eq hz.symm)
   clear hz
   obtain ⟨p0, p1, p2, p3, p4, p5, p6, p7, p8⟩ := conf_cells0 isc
   obtain ⟨k0, k1, k2, k3, k4, k5, k6⟩ := core_cells (K := K) isk
   go_wp2_with fail
   refine (KF _ F).mono ?_
   rintro _ w1 ⟨rfl, fv⟩
   have isc := isc.fr fv id
   have isk := isk.fr fv id
   have isr := isr.fr fv id
   have F := fr_nil F fv
   have HSZ := Lib.hid (Nat.le_trans HSZ.out fv.size)
   clear fv KF p0 p1 p2 p3 p4 p5 p6 p7 p8 k0 k1 k2 k3 k4 k5 k6
   go_wp2_with fail
   refine (KW _ F).mono ?_
   rintro _ w2 ⟨rfl, fv⟩
   have isc := isc.fr fv id
   have isk := isk.fr fv id
   have isr := isr.fr fv id
   have F := fr_nil F fv
   have HSZ := Lib.hid (Nat.le_trans HSZ.out fv.size)
   clear fv KW
   go_upto_region 5 with (fail)
   have HIC := Lib.hid isc
   have HIK := Lib.hid isk
   have HIR := Lib.hid isr
   have HF := Lib.hid F
   clear isc isk isr F
   have HS : Hid (∀ W, Fr (fun _ => False) w2 W → (fun Wx => (Wx.cell? ⟨w.heap.size, 0, none⟩ = some (.slice C.A1 C.l.length C.c1) ∧ Wx.cell? ⟨w.heap.size, 1, none⟩ = some (.slice C.A2 C.js.length C.c2) ∧ Wx.cell? ⟨w.heap.size, 2, none⟩ = some (.slice C.A3 C.sg.length C.c3) ∧ Wx.cell? ⟨w.heap.size, 3, none⟩ = some (.slice C.A4 C.cr.length C.c4) ∧ Wx.cell? ⟨w.heap.size, 4, none⟩ = some (.slice C.A5 C.rs.length C.c5) ∧ Wx.cell? ⟨w.heap.size, 5, none⟩ = some (.int .i64 C.tm.age) ∧ Wx.cell? ⟨w.heap.size, 6, none⟩ = some (.int .i64 C.tm.brake) ∧ Wx.cell? ⟨w.heap.size, 7, none⟩ = some (.int .i64 C.tm.hold) ∧ Wx.cell? ⟨w.heap.size, 8, none⟩ = some (.int .i64 C.tm.budget)) ∧ (Wx.cell? ⟨w.heap.size + 1, 0, none⟩ = some (.slice K.A1 K.own.length K.c1) ∧ Wx.cell? ⟨w.heap.size + 1, 1, none⟩ = some (.slice K.A2 K.rts.length K.c2) ∧ Wx.cell? ⟨w.heap.size + 1, 2, none⟩ = some (.slice K.A3 K.pts.length K.c3) ∧ Wx.cell? ⟨w.heap.size + 1, 3, none⟩ = some (.slice K.A4 K.crs.length K.c4) ∧ Wx.cell? ⟨w.heap.size + 1, 4, none⟩ = some (.slice K.A5 K.lns.length K.c5) ∧ Wx.cell? ⟨w.heap.size + 1, 5, none⟩ = some (.slice K.A6 K.rss.length K.c6) ∧ Wx.cell? ⟨w.heap.size + 1, 6, none⟩ = some (.bool K.dirty))) W) := Lib.hid fun W fW => ⟨conf_cells0 (HIC.out.fr fW id), core_cells (K := K) (HIK.out.fr fW id)⟩
   refine wp_region_held_drew (S := (fun Wx => (Wx.cell? ⟨w.heap.size, 0, none⟩ = some (.slice C.A1 C.l.length C.c1) ∧ Wx.cell? ⟨w.heap.size, 1, none⟩ = some (.slice C.A2 C.js.length C.c2) ∧ Wx.cell? ⟨w.heap.size, 2, none⟩ = some (.slice C.A3 C.sg.length C.c3) ∧ Wx.cell? ⟨w.heap.size, 3, none⟩ = some (.slice C.A4 C.cr.length C.c4) ∧ Wx.cell? ⟨w.heap.size, 4, none⟩ = some (.slice C.A5 C.rs.length C.c5) ∧ Wx.cell? ⟨w.heap.size, 5, none⟩ = some (.int .i64 C.tm.age) ∧ Wx.cell? ⟨w.heap.size, 6, none⟩ = some (.int .i64 C.tm.brake) ∧ Wx.cell? ⟨w.heap.size, 7, none⟩ = some (.int .i64 C.tm.hold) ∧ Wx.cell? ⟨w.heap.size, 8, none⟩ = some (.int .i64 C.tm.budget)) ∧ (Wx.cell? ⟨w.heap.size + 1, 0, none⟩ = some (.slice K.A1 K.own.length K.c1) ∧ Wx.cell? ⟨w.heap.size + 1, 1, none⟩ = some (.slice K.A2 K.rts.length K.c2) ∧ Wx.cell? ⟨w.heap.size + 1, 2, none⟩ = some (.slice K.A3 K.pts.length K.c3) ∧ Wx.cell? ⟨w.heap.size + 1, 3, none⟩ = some (.slice K.A4 K.crs.length K.c4) ∧ Wx.cell? ⟨w.heap.size + 1, 4, none⟩ = some (.slice K.A5 K.lns.length K.c5) ∧ Wx.cell? ⟨w.heap.size + 1, 5, none⟩ = some (.slice K.A6 K.rss.length K.c6) ∧ Wx.cell? ⟨w.heap.size + 1, 6, none⟩ = some (.bool K.dirty)))) (by kernel_rfl) (HS.out _ (Fr.refl _ w2).drew) (fun hHeld => ?_)
   refine wpAnyH_take (i := 0) (oi := { dst := some 25, op := _, type := _, pos := _, after := _, guard := _ }) (v := ?_) rfl (by kernel_rfl) (by kernel_rfl) (by kernel_rfl) (fun _ _ _ h => h) (Or.inl ⟨by rfl, ?_⟩) (by assumption) ?_
   rotate_left
   ·intro Wx hSw
    try dsimp only at hSw
    go_simp
    try with_reducible rfl
   try simp only [Act.put, List.setIfInBounds_toArray, List.set_cons_zero, List.set_cons_succ]
   refine wpAnyH_take (i := 2) (oi := { dst := some 27, op := _, type := _, pos := _, after := _, guard := _ }) (v := ?_) rfl (by kernel_rfl) (by kernel_rfl) (by kernel_rfl) (fun _ _ _ h => h) (Or.inl ⟨by rfl, ?_⟩) (by assumption) ?_
   rotate_left
   ·intro Wx hSw
    try dsimp only at hSw
    go_simp
    try with_reducible rfl
   try simp only [Act.put, List.setIfInBounds_toArray, List.set_cons_zero, List.set_cons_succ]
   refine wpAnyH_ready (rs := [1]) (by kernel_rfl) (by simp) (AllReadyH.cons rfl (fun KK hKK => ?_) AllReadyH.nil)
   go_simp
   refine (KO _ HF.out.drew).mono ?_
   rintro _ v3 ⟨K2, rfl, hk2, o2, fv⟩
   unfold Km.val Km.arr
   go_simp
   have HV := Lib.hid fv
   have HO := Lib.hid o2
   have HK2 := Lib.hid hk2
   clear fv o2 hk2
   refine hKK.out _ _ (HS.out _ ((Fr.refl _ w2).drew.trans HV.out fun _ _ e => e)) (fun hHeld => ?_)
   clear hKK KK
   refine wpAnyH_take (i := 3) (oi := { dst := some 28, op := _, type := _, pos := _, after := _, guard := _ }) (v := ?_) rfl (by kernel_rfl) (by kernel_rfl) (by kernel_rfl) (fun _ _ _ h => h) (Or.inl ⟨by rfl, ?_⟩) (by assumption) ?_
   rotate_left
   ·intro Wx hSw
    try dsimp only at hSw
    go_simp
    try with_reducible rfl
   try simp only [Act.put, List.setIfInBounds_toArray, List.set_cons_zero, List.set_cons_succ]
   refine wpAnyH_ready (rs := [4]) (by kernel_rfl) (by simp) (AllReadyH.cons rfl (fun KK hKK => ?_) AllReadyH.nil)
   go_simp
   have HA := Lib.hid ((Fr.refl (fun _ => False) v3).alloc (.cells #[.slice K2.A1 K2.own.length K2.c1, .slice K2.A2 K2.rts.length K2.c2, .slice K2.A3 K2.pts.length K2.c3, .slice K2.A4 K2.crs.length K2.c4, .slice K2.A5 K2.lns.length K2.c5, .slice K2.A6 K2.rss.length K2.c6, .bool K2.dirty, .slice C.A1 C.l.length C.c1, .slice C.A2 C.js.length C.c2, .slice C.A3 C.sg.length C.c3, .slice C.A4 C.cr.length C.c4, .slice C.A5 C.rs.length C.c5, .int .i64 C.tm.age, .int .i64 C.tm.brake, .int .i64 C.tm.hold, .int .i64 C.tm.budget] 183))
   refine hKK.out _ _ (HS.out _ (((Fr.refl _ w2).drew.trans HV.out fun _ _ e => e).trans HA.out fun _ _ e => e)) (fun hHeld => ?_)
   clear hKK KK
   refine wpAnyH_take (i := 5) (oi := { dst := some 10, op := _, type := _, pos := _, after := _, guard := _ }) (v := ?_) rfl (by kernel_rfl) (by kernel_rfl) (by kernel_rfl) (fun _ _ _ h => h) (Or.inl ⟨by rfl, ?_⟩) (by assumption) ?_
   rotate_left
   ·intro Wx hSw
    try dsimp only at hSw
    go_simp
    try with_reducible rfl
   try simp only [Act.put, List.setIfInBounds_toArray, List.set_cons_zero, List.set_cons_succ]
   refine wpAnyH_done (by kernel_rfl) ?_ _
   have HST : Hid (St w2.drew (v3.alloc (.cells #[.slice K2.A1 K2.own.length K2.c1, .slice K2.A2 K2.rts.length K2.c2, .slice K2.A3 K2.pts.length K2.c3, .slice K2.A4 K2.crs.length K2.c4, .slice K2.A5 K2.lns.length K2.c5, .slice K2.A6 K2.rss.length K2.c6, .bool K2.dirty, .slice C.A1 C.l.length C.c1, .slice C.A2 C.js.length C.c2, .slice C.A3 C.sg.length C.c3, .slice C.A4 C.cr.length C.c4, .slice C.A5 C.rs.length C.c5, .int .i64 C.tm.age, .int .i64 C.tm.brake, .int .i64 C.tm.hold, .int .i64 C.tm.budget] 183)) v3.heap.size K2 C) := Lib.hid ⟨Is.new v3 183 #[.slice K2.A1 K2.own.length K2.c1, .slice K2.A2 K2.rts.length K2.c2, .slice K2.A3 K2.pts.length K2.c3, .slice K2.A4 K2.crs.length K2.c4, .slice K2.A5 K2.lns.length K2.c5, .slice K2.A6 K2.rss.length K2.c6, .bool K2.dirty, .slice C.A1 C.l.length C.c1, .slice C.A2 C.js.length C.c2, .slice C.A3 C.sg.length C.c3, .slice C.A4 C.cr.length C.c4, .slice C.A5 C.rs.length C.c5, .int .i64 C.tm.age, .int .i64 C.tm.brake, .int .i64 C.tm.hold, .int .i64 C.tm.budget], HO.out.fr HA.out fun _ _ => id, HV.out.trans HA.out fun _ _ e => e, HV.out.size⟩
   generalize v3.alloc _ = v4 at *
   generalize v3.heap.size = sb at *
   have HX1 := HX.out w2.drew v4 sb K2 HF.out.drew HST.out HK2.out (by trivial) (by trivial)
   clear HX HA HO HV HS
   obtain ⟨xk, xe⟩ := x
   have hy := HY.out
   clear HY HK2 HST
   dsimp only at hy HX1
   by_cases he : xe = 0
   ·subst he
    rw [if_pos rfl] at hy
    subst hy
    clear KO
    go_wp2_with fail
    refine HX1.mono ?_
    rintro _ v5 ⟨rfl, K3, hk3, st⟩
    clear HX1
    dsimp only at hk3
    have FS := st.f
    have isr := (HIR.out.fr (Fr.refl (fun _ => False) w2).drew id).fr FS id
    obtain ⟨m0, m1, m2, m3, m4, m5, m6⟩ := seven isr
    have z0 := isr.frozen 0
    have z1 := isr.frozen 1
    have z2 := isr.frozen 2
    have z3 := isr.frozen 3
    have z4 := isr.frozen 4
    have z5 := isr.frozen 5
    have z6 := isr.frozen 6
    have s0 : v5.cell? ⟨sb, 0, none⟩ = some (.slice K3.A1 K3.own.length K3.c1) := st.is.cell 0
    have s1 : v5.cell? ⟨sb, 1, none⟩ = some (.slice K3.A2 K3.rts.length K3.c2) := st.is.cell 1
    have s2 : v5.cell? ⟨sb, 2, none⟩ = some (.slice K3.A3 K3.pts.length K3.c3) := st.is.cell 2
    have s3 : v5.cell? ⟨sb, 3, none⟩ = some (.slice K3.A4 K3.crs.length K3.c4) := st.is.cell 3
    have s4 : v5.cell? ⟨sb, 4, none⟩ = some (.slice K3.A5 K3.lns.length K3.c5) := st.is.cell 4
    have s5 : v5.cell? ⟨sb, 5, none⟩ = some (.slice K3.A6 K3.rss.length K3.c6) := st.is.cell 5
    have s6 : v5.cell? ⟨sb, 6, none⟩ = some (.bool K3.dirty) := st.is.cell 6
    have HS8 : Hid (w.heap.size + 3 ≤ w2.drew.heap.size) := Lib.hid (by simpa using HSZ.out)
    have HO2 := Lib.hid st.own
    have HK2 := Lib.hid hk3
    have HF9 := Lib.hid (HF.out.drew.trans FS fun _ _ e => e)
    generalize w2.drew = wd at *
    clear hk3 st FS
    go_wp2_with fail
    have isR := (((((((isr.set 0 (.slice K3.A1 K3.own.length K3.c1)).set 1 (.slice K3.A2 K3.rts.length K3.c2)).set 2 (.slice K3.A3 K3.pts.length K3.c3)).set 3 (.slice K3.A4 K3.crs.length K3.c4)).set 4 (.slice K3.A5 K3.lns.length K3.c5)).set 5 (.slice K3.A6 K3.rss.length K3.c6)).set 6 (.bool K3.dirty))
    have fR := ((((((((Fr.refl (fun q => q = w.heap.size + 1 + 1) v5).setCell (p := ⟨w.heap.size + 1 + 1, 0, none⟩) (.inl rfl) (.slice K3.A1 K3.own.length K3.c1)).setCell (p := ⟨w.heap.size + 1 + 1, 1, none⟩) (.inl rfl) (.slice K3.A2 K3.rts.length K3.c2)).setCell (p := ⟨w.heap.size + 1 + 1, 2, none⟩) (.inl rfl) (.slice K3.A3 K3.pts.length K3.c3)).setCell (p := ⟨w.heap.size + 1 + 1, 3, none⟩) (.inl rfl) (.slice K3.A4 K3.crs.length K3.c4)).setCell (p := ⟨w.heap.size + 1 + 1, 4, none⟩) (.inl rfl) (.slice K3.A5 K3.lns.length K3.c5)).setCell (p := ⟨w.heap.size + 1 + 1, 5, none⟩) (.inl rfl) (.slice K3.A6 K3.rss.length K3.c6)).setCell (p := ⟨w.heap.size + 1 + 1, 6, none⟩) (.inl rfl) (.bool K3.dirty))
    simp only [List.setIfInBounds_toArray, List.set_cons_zero, List.set_cons_succ] at isR
    generalize hW : World.setCell _ _ _ = W at *
    have c0 := isR.cell 0
    have c1 := isR.cell 1
    have c2 := isR.cell 2
    have c3 := isR.cell 3
    have c4 := isR.cell 4
    have c5 := isR.cell 5
    have c6 := isR.cell 6
    have HOW : K3.Own w.heap.size W := (HO2.out.fr fR fun k hk e => by have a := (HO2.out.lt k hk).1; have b := HS8.out; omega).base (by have b := HS8.out; omega)
    have FW : Fr (fun _ => False) w W := HF9.out.trans fR fun k hk e => by omega
    refine bodyPost_ret (v := .tuple #[K3.val, .int .i64 0]) ?_ rfl ⟨K3, rfl, HK2.out, HOW, FW⟩
    unfold Km.val Km.arr
    simp [results, Tryz.results84, go_sem, c0, c1, c2, c3, c4, c5, c6]
   ·rw [if_neg he] at hy
    subst hy
    have e1 : (xe == 0) = false := by simpa using he
    have e2 : decide (xe = 0) = false := by simpa using he
    go_wp2_with fail
    refine HX1.mono ?_
    rintro _ v5 ⟨rfl, K3, hk3, st⟩
    clear HX1
    have FS := st.f
    have isr := (HIR.out.fr (Fr.refl (fun _ => False) w2).drew id).fr FS id
    have isk := (HIK.out.fr (Fr.refl (fun _ => False) w2).drew id).fr FS id
    have F := HF.out.drew.trans FS fun _ _ e => e
    have HSZ : Hid (w.heap.size + 3 ≤ v5.heap.size) := Lib.hid (Nat.le_trans HSZ.out (by simpa using FS.size))
    clear FS st hk3
    dsimp only
    obtain ⟨k0, k1, k2, k3, k4, k5, k6⟩ := core_cells (K := K) isk
    go_wp2_with fail
    refine (KO _ F).mono ?_
    rintro _ v9 ⟨K2, rfl, hk2, o2, fv⟩
    have isr := isr.fr fv id
    have HS9 := Lib.hid (Nat.le_trans HSZ.out (show _ ≤ v9.heap.size from fv.size))
    have HS8 := HSZ
    have HO2 := Lib.hid o2
    have HK2 := Lib.hid hk2
    have HF9 := Lib.hid (fr_nil F fv)
    obtain ⟨m0, m1, m2, m3, m4, m5, m6⟩ := seven isr
    have z0 := isr.frozen 0
    have z1 := isr.frozen 1
    have z2 := isr.frozen 2
    have z3 := isr.frozen 3
    have z4 := isr.frozen 4
    have z5 := isr.frozen 5
    have z6 := isr.frozen 6
    clear o2 hk2 fv k0 k1 k2 k3 k4 k5 k6 F isk KO
    unfold Km.val Km.arr
    go_wp2_with fail
    have isR := (((((((isr.set 0 (.slice K2.A1 K2.own.length K2.c1)).set 1 (.slice K2.A2 K2.rts.length K2.c2)).set 2 (.slice K2.A3 K2.pts.length K2.c3)).set 3 (.slice K2.A4 K2.crs.length K2.c4)).set 4 (.slice K2.A5 K2.lns.length K2.c5)).set 5 (.slice K2.A6 K2.rss.length K2.c6)).set 6 (.bool K2.dirty))
    have fR := ((((((((Fr.refl (fun q => q = w.heap.size + 1 + 1) v9).setCell (p := ⟨w.heap.size + 1 + 1, 0, none⟩) (.inl rfl) (.slice K2.A1 K2.own.length K2.c1)).setCell (p := ⟨w.heap.size + 1 + 1, 1, none⟩) (.inl rfl) (.slice K2.A2 K2.rts.length K2.c2)).setCell (p := ⟨w.heap.size + 1 + 1, 2, none⟩) (.inl rfl) (.slice K2.A3 K2.pts.length K2.c3)).setCell (p := ⟨w.heap.size + 1 + 1, 3, none⟩) (.inl rfl) (.slice K2.A4 K2.crs.length K2.c4)).setCell (p := ⟨w.heap.size + 1 + 1, 4, none⟩) (.inl rfl) (.slice K2.A5 K2.lns.length K2.c5)).setCell (p := ⟨w.heap.size + 1 + 1, 5, none⟩) (.inl rfl) (.slice K2.A6 K2.rss.length K2.c6)).setCell (p := ⟨w.heap.size + 1 + 1, 6, none⟩) (.inl rfl) (.bool K2.dirty))
    simp only [List.setIfInBounds_toArray, List.set_cons_zero, List.set_cons_succ] at isR
    generalize hW : World.setCell _ _ _ = W at *
    have c0 := isR.cell 0
    have c1 := isR.cell 1
    have c2 := isR.cell 2
    have c3 := isR.cell 3
    have c4 := isR.cell 4
    have c5 := isR.cell 5
    have c6 := isR.cell 6
    have HOW : K2.Own w.heap.size W := (HO2.out.fr fR fun k hk e => by have a := (HO2.out.lt k hk).1; have b := HS8.out; omega).base (by have b := HS8.out; omega)
    have FW : Fr (fun _ => False) w W := HF9.out.trans fR fun k hk e => by omega
    refine bodyPost_ret (v := .tuple #[K2.val, .int .i64 xe]) ?_ rfl ⟨K2, rfl, HK2.out, HOW, FW⟩
    unfold Km.val Km.arr
    simp [results, Tryz.results84, go_sem, c0, c1, c2, c3, c4, c5, c6]
end Go.Proofs.YtginfnbdnkgjbaaGreat.Lk
namespace Go.Proofs.YtginfnbdnkgjbaaGreat.Lk
open Go.RowKit
set_option maxRecDepth 100000 in
set_option maxHeartbeats 8000000 in
theorem call_Restore_any (C : Cm) (K : Km) (w : World) (hC : C.Ok w) (hK : K.Ok w) (r : Int) :
  Calls Tryz.prog 49 #[C.val, K.val, .int .i64 r] w (AnsE w (gateM C.cf K.kp true (restM C.cf K.kp r))) := by
 have HC := Lib.hid hC
 have HK := Lib.hid hK
 have HF0 := Lib.hid (((((Fr.refl (fun _ => False) w).alloc (.cells C.arr 30)).alloc (.cells K.arr 35)).alloc (.cells #[.int .i64 r] 3)).alloc (.cells #[.slice none 0 0, .slice none 0 0, .slice none 0 0, .slice none 0 0, .slice none 0 0, .slice none 0 0, .bool false] 35))
 have HIC := Lib.hid ((((Is.new w 30 C.arr).alloc (.cells K.arr 35)).alloc (.cells #[.int .i64 r] 3)).alloc (.cells #[.slice none 0 0, .slice none 0 0, .slice none 0 0, .slice none 0 0, .slice none 0 0, .slice none 0 0, .bool false] 35))
 have HIK := Lib.hid (((Is.new (w.alloc (.cells C.arr 30)) 35 K.arr).alloc (.cells #[.int .i64 r] 3)).alloc (.cells #[.slice none 0 0, .slice none 0 0, .slice none 0 0, .slice none 0 0, .slice none 0 0, .slice none 0 0, .bool false] 35))
 rw [show (w.alloc (.cells C.arr 30)).heap.size = w.heap.size + 1 by simp] at HIK
 have HI0 := Lib.hid ((Is.new ((w.alloc (.cells C.arr 30)).alloc (.cells K.arr 35)) 3 #[.int .i64 r]).alloc (.cells #[.slice none 0 0, .slice none 0 0, .slice none 0 0, .slice none 0 0, .slice none 0 0, .slice none 0 0, .bool false] 35))
 rw [show ((w.alloc (.cells C.arr 30)).alloc (.cells K.arr 35)).heap.size = w.heap.size + 1 + 1 by simp] at HI0
 have HIR := Lib.hid (Is.new (((w.alloc (.cells C.arr 30)).alloc (.cells K.arr 35)).alloc (.cells #[.int .i64 r] 3)) 35 #[.slice none 0 0, .slice none 0 0, .slice none 0 0, .slice none 0 0, .slice none 0 0, .slice none 0 0, .bool false])
 rw [show (((w.alloc (.cells C.arr 30)).alloc (.cells K.arr 35)).alloc (.cells #[.int .i64 r] 3)).heap.size = w.heap.size + 1 + 1 + 1 by simp] at HIR
 have hz : ((((w.alloc (.cells C.arr 30)).alloc (.cells K.arr 35)).alloc (.cells #[.int .i64 r] 3)).alloc (.cells #[.slice none 0 0, .slice none 0 0, .slice none 0 0, .slice none 0 0, .slice none 0 0, .slice none 0 0, .bool false] 35)).heap.size = w.heap.size + 4 := by simp
 have HZ := Lib.hid hz
 clear hC hK hz
 have hCv : C.val = .agg C.arr := rfl
 rw [show gateM C.cf K.kp true (restM C.cf K.kp r) = gateM C.cf K.kp (([] : List Int).all tmB) (if (restK K.rts.length K.kp r).2 = 0 then (restK K.rts.length K.kp r) else (K.kp, (restK K.rts.length K.kp r).2)) from gate_congr (by simp) (fun hf => by
  have a : K.rts.length = C.cf.rts.length := (fits_lens hf).2.1
  unfold restM restK
  rw [a]
  split
  ·simp
  ·split <;> simp)]
 have HY : ∃ y, y = gateM C.cf K.kp (([] : List Int).all tmB) (if (restK K.rts.length K.kp r).2 = 0 then (restK K.rts.length K.kp r) else (K.kp, (restK K.rts.length K.kp r).2)) := ⟨_, rfl⟩
 obtain ⟨y, hy⟩ := HY
 rw [← hy]
 have HY := Lib.hid hy
 clear hy hCv
 unfold Cm.val Km.val Cm.arr Km.arr at *
 go_enter Tryz.func49, Tryz.ntmps49
 go_upto_region 1 with (fail)
 have F := HF0.out
 have isIC := HIC.out
 have isIK := HIK.out
 have isI0 := HI0.out
 have isIR := HIR.out
 have hz := HZ.out
 clear HF0 HIC HIK HI0 HIR HZ
 generalize ((((w.alloc _).alloc _).alloc _).alloc _) = w0 at *
 have HIR := Lib.hid isIR
 have HF := Lib.hid F
 have HZ := Lib.hid hz
 have HI0 := Lib.hid isI0
 have KA := answer_Restore_any (ct := 0) C K w0 (HC.out.fr F) (HK.out.fr F) (.pointer (some ⟨w.heap.size + 1 + 1, 0, none⟩)) (restK K.rts.length K.kp r) (At := none) (ts := []) (fun h => absurd h (by simp)) (by simp) ?_
 rotate_left
 ·intro wa W sb K' fa st hk hf ht
  have FW : Fr (fun _ => False) w0 W := (((Fr.refl (fun _ => False) w0)).trans fa fun _ _ e => e).trans st.f fun _ _ e => e
  have b0 : W.cell? ⟨w.heap.size + 1 + 1, 0, none⟩ = some (.int .i64 r) := (HI0.out.fr FW id).cell 0
  have HST := Lib.hid st
  have HCW := Lib.hid (HC.out.fr (HF.out.trans FW fun _ _ e => e))
  have HFW := Lib.hid FW
  have hl1 : K'.rts.length = K.rts.length := congrArg (fun k : Kp => k.rts.length) hk
  have KR := restore_any HST.out r
  rw [hl1, hk] at KR
  clear hl1 hk hf ht fa st FW
  go_enter Tryz.func120, Tryz.ntmps120
  go_wp2_with fail
  refine KR.mono ?_
  rintro _ W1 ⟨rfl, L⟩
  have L := Lib.hid L
  go_wp2_with fail
  go_ret
  exact ⟨rfl, L.out⟩
 obtain ⟨p0, p1, p2, p3, p4, p5, p6, p7, p8⟩ := conf_cells0 isIC
 obtain ⟨k0, k1, k2, k3, k4, k5, k6⟩ := core_cells (K := K) isIK
 have b0 : w0.cell? ⟨w.heap.size + 1 + 1, 0, none⟩ = some (.int .i64 r) := isI0.cell 0
 rw [← HY.out] at KA
 clear isIC isIK isI0 isIR F hz
 unfold Cm.val Km.val Cm.arr Km.arr at KA
 go_wp2_with fail
 refine KA.mono ?_
 rintro _ v9 ⟨K2, rfl, hk2, o2, fv⟩
 have isr := HIR.out.fr (((Fr.refl (fun _ => False) w0)).trans fv fun _ _ e => e) id
 obtain ⟨m0, m1, m2, m3, m4, m5, m6⟩ := seven isr
 have z0 := isr.frozen 0
 have z1 := isr.frozen 1
 have z2 := isr.frozen 2
 have z3 := isr.frozen 3
 have z4 := isr.frozen 4
 have z5 := isr.frozen 5
 have z6 := isr.frozen 6
 have HS8 : Hid (w.heap.size + 4 ≤ w0.heap.size) := Lib.hid (by have := HZ.out; omega)
 have HO2 := Lib.hid o2
 have HK2 := Lib.hid hk2
 have HF9 := Lib.hid (HF.out.trans (((Fr.refl (fun _ => False) w0)).trans fv fun _ _ e => e) fun _ _ e => e)
 clear KA o2 hk2 fv b0
 unfold Km.val Km.arr
 go_wp2_with fail
 have isR := (((((((isr.set 0 (.slice K2.A1 K2.own.length K2.c1)).set 1 (.slice K2.A2 K2.rts.length K2.c2)).set 2 (.slice K2.A3 K2.pts.length K2.c3)).set 3 (.slice K2.A4 K2.crs.length K2.c4)).set 4 (.slice K2.A5 K2.lns.length K2.c5)).set 5 (.slice K2.A6 K2.rss.length K2.c6)).set 6 (.bool K2.dirty))
 have fR := ((((((((Fr.refl (fun q => q = w.heap.size + 1 + 1 + 1) v9).setCell (p := ⟨w.heap.size + 1 + 1 + 1, 0, none⟩) (.inl rfl) (.slice K2.A1 K2.own.length K2.c1)).setCell (p := ⟨w.heap.size + 1 + 1 + 1, 1, none⟩) (.inl rfl) (.slice K2.A2 K2.rts.length K2.c2)).setCell (p := ⟨w.heap.size + 1 + 1 + 1, 2, none⟩) (.inl rfl) (.slice K2.A3 K2.pts.length K2.c3)).setCell (p := ⟨w.heap.size + 1 + 1 + 1, 3, none⟩) (.inl rfl) (.slice K2.A4 K2.crs.length K2.c4)).setCell (p := ⟨w.heap.size + 1 + 1 + 1, 4, none⟩) (.inl rfl) (.slice K2.A5 K2.lns.length K2.c5)).setCell (p := ⟨w.heap.size + 1 + 1 + 1, 5, none⟩) (.inl rfl) (.slice K2.A6 K2.rss.length K2.c6)).setCell (p := ⟨w.heap.size + 1 + 1 + 1, 6, none⟩) (.inl rfl) (.bool K2.dirty))
 simp only [List.setIfInBounds_toArray, List.set_cons_zero, List.set_cons_succ] at isR
 generalize hW : World.setCell _ _ _ = W at *
 have c0 := isR.cell 0
 have c1 := isR.cell 1
 have c2 := isR.cell 2
 have c3 := isR.cell 3
 have c4 := isR.cell 4
 have c5 := isR.cell 5
 have c6 := isR.cell 6
 have HOW : K2.Own w.heap.size W := (HO2.out.fr fR fun k hk e => by have a := (HO2.out.lt k hk).1; have b := HS8.out; omega).base (by have b := HS8.out; omega)
 have FW : Fr (fun _ => False) w W := HF9.out.trans fR fun k hk e => by omega
 refine bodyPost_ret (v := .tuple #[K2.val, .int .i64 y.2]) ?_ rfl ⟨K2, rfl, HK2.out, HOW, FW⟩
 unfold Km.val Km.arr
 simp [results, Tryz.results49, go_sem, c0, c1, c2, c3, c4, c5, c6]
end Go.Proofs.YtginfnbdnkgjbaaGreat.Lk
namespace Go.Proofs.YtginfnbdnkgjbaaGreat.Lk
open Go.RowKit
structure Ca where
 kind : Int
 now : Int
 n : Int
 pos : Int
instance : Inhabited Ca := ⟨⟨0, 0, 0, 0⟩⟩
def Ca.cells (x : Ca) : List Value := [.int .i64 x.kind, .int .i64 x.now, .int .i64 x.n, .int .i64 x.pos]
def doM (c : Cf) (k : Kp) (x : Ca) : Kp × Int :=
 if x.kind = 1 then gateM c k (tmB x.now) (reqM c k x.now x.n) else if x.kind = 2 then gateM c k (tmB x.now) (goM c k x.now x.n [1, 2, 3]) else if x.kind = 3 then gateM c k true (restM c k x.n)
 else if x.kind = 4 then gateM c k (tmB x.now) (goM c k x.now x.n [5]) else if x.kind = 5 then gateM c k (tmB x.now) (resetM c k x.now x.n) else gateM c k (tmB x.now) (throwM c k x.now x.n x.pos)
theorem four9 {w : World} {b : Nat} {v0 v1 v2 v3 : Value} {t : TypeId} (h : Is w b t #[v0, v1, v2, v3]) : w.cell? ⟨b, 0, none⟩ = some v0 ∧ w.cell? ⟨b, 1, none⟩ = some v1 ∧ w.cell? ⟨b, 2, none⟩ = some v2 ∧ w.cell? ⟨b, 3, none⟩ = some v3 :=
 ⟨h.cell 0, h.cell 1, h.cell 2, h.cell 3⟩
set_option maxRecDepth 100000 in
set_option maxHeartbeats 8000000 in
theorem do_any (C : Cm) (K : Km) (w : World) (hC : C.Ok w) (hK : K.Ok w) (x : Ca) :
  Calls Tryz.prog 20 #[C.val, K.val, .agg #[.int .i64 x.kind, .int .i64 x.now, .int .i64 x.n, .int .i64 x.pos]] w (AnsE w (doM C.cf K.kp x)) := by
 obtain ⟨kd, now, n, pos⟩ := x
 dsimp only
 have HF := Lib.hid (((((Fr.refl (fun _ => False) w).alloc (.cells C.arr 30)).alloc (.cells K.arr 35)).alloc (.cells #[.int .i64 kd, .int .i64 now, .int .i64 n, .int .i64 pos] 37)).alloc (.cells #[.slice none 0 0, .slice none 0 0, .slice none 0 0, .slice none 0 0, .slice none 0 0, .slice none 0 0, .bool false] 35))
 have HIC := Lib.hid ((((Is.new w 30 C.arr).alloc (.cells K.arr 35)).alloc (.cells #[.int .i64 kd, .int .i64 now, .int .i64 n, .int .i64 pos] 37)).alloc (.cells #[.slice none 0 0, .slice none 0 0, .slice none 0 0, .slice none 0 0, .slice none 0 0, .slice none 0 0, .bool false] 35))
 have HIK := Lib.hid (((Is.new (w.alloc (.cells C.arr 30)) 35 K.arr).alloc (.cells #[.int .i64 kd, .int .i64 now, .int .i64 n, .int .i64 pos] 37)).alloc (.cells #[.slice none 0 0, .slice none 0 0, .slice none 0 0, .slice none 0 0, .slice none 0 0, .slice none 0 0, .bool false] 35))
 have HIX := Lib.hid ((Is.new ((w.alloc (.cells C.arr 30)).alloc (.cells K.arr 35)) 37 #[.int .i64 kd, .int .i64 now, .int .i64 n, .int .i64 pos]).alloc (.cells #[.slice none 0 0, .slice none 0 0, .slice none 0 0, .slice none 0 0, .slice none 0 0, .slice none 0 0, .bool false] 35))
 have HIR := Lib.hid (Is.new (((w.alloc (.cells C.arr 30)).alloc (.cells K.arr 35)).alloc (.cells #[.int .i64 kd, .int .i64 now, .int .i64 n, .int .i64 pos] 37)) 35 #[.slice none 0 0, .slice none 0 0, .slice none 0 0, .slice none 0 0, .slice none 0 0, .slice none 0 0, .bool false])
 rw [show (w.alloc (.cells C.arr 30)).heap.size = w.heap.size + 1 by simp] at HIK
 rw [show ((w.alloc (.cells C.arr 30)).alloc (.cells K.arr 35)).heap.size = w.heap.size + 2 by simp] at HIX
 rw [show (((w.alloc (.cells C.arr 30)).alloc (.cells K.arr 35)).alloc (.cells #[.int .i64 kd, .int .i64 now, .int .i64 n, .int .i64 pos] 37)).heap.size = w.heap.size + 3 by simp] at HIR
 have KRQ := fun W (f : Fr (fun _ => False) w W) => call_Request_fit C K W (hC.fr f) (hK.fr f) now n
 have KCA := fun W (f : Fr (fun _ => False) w W) => call_Cancel_any C K W (hC.fr f) (hK.fr f) now n
 have KRS := fun W (f : Fr (fun _ => False) w W) => call_Restore_any C K W (hC.fr f) (hK.fr f) n
 have KRL := fun W (f : Fr (fun _ => False) w W) => call_Release_any C K W (hC.fr f) (hK.fr f) now n
 have KRT := fun W (f : Fr (fun _ => False) w W) => call_Reset_any C K W (hC.fr f) (hK.fr f) now n
 have KTH := fun W (f : Fr (fun _ => False) w W) => call_Throw_any C K W (hC.fr f) (hK.fr f) now n pos
 clear hC hK
 unfold doM
 dsimp only
 by_cases q1 : kd = 1
 ·rw [if_pos q1]
  have KX := KRQ
  subst q1
  clear KRQ KCA KRS KRL KRT KTH
  generalize hy : gateM C.cf K.kp (tmB now) (reqM C.cf K.kp now n) = y at *
  clear hy
  unfold Cm.val Km.val Cm.arr Km.arr at *
  go_enter Tryz.func20, Tryz.ntmps20
  go_upto_region 1 with fail
  generalize ((((w.alloc _).alloc _).alloc _).alloc _) = w0 at *
  obtain ⟨p0, p1, p2, p3, p4, p5, p6, p7, p8⟩ := conf_cells0 HIC.out
  obtain ⟨k0, k1, k2, k3, k4, k5, k6⟩ := core_cells (K := K) HIK.out
  obtain ⟨x0, x1, x2, x3⟩ := four9 HIX.out
  skip
  go_wp2_with fail
  refine (KX _ HF.out).mono ?_
  rintro _ v9 ⟨K2, rfl, hk2, o2, fv⟩
  have isr := HIR.out.fr fv id
  have HS9 : Hid (w.heap.size + 3 < w0.heap.size) := Lib.hid HIR.out.lt
  have HSZ := Lib.hid fv.size
  have HO2 := Lib.hid o2
  have HK2 := Lib.hid hk2
  have HF9 := Lib.hid (fr_nil HF.out fv)
  obtain ⟨m0, m1, m2, m3, m4, m5, m6⟩ := seven isr
  have z0 := isr.frozen 0
  have z1 := isr.frozen 1
  have z2 := isr.frozen 2
  have z3 := isr.frozen 3
  have z4 := isr.frozen 4
  have z5 := isr.frozen 5
  have z6 := isr.frozen 6
  clear o2 hk2 fv k0 k1 k2 k3 k4 k5 k6 p0 p1 p2 p3 p4 p5 p6 p7 p8 x0 x1 x2 x3 KX
  unfold Km.val Km.arr
  go_wp2_with fail
  have isR := (((((((isr.set 0 (.slice K2.A1 K2.own.length K2.c1)).set 1 (.slice K2.A2 K2.rts.length K2.c2)).set 2 (.slice K2.A3 K2.pts.length K2.c3)).set 3 (.slice K2.A4 K2.crs.length K2.c4)).set 4 (.slice K2.A5 K2.lns.length K2.c5)).set 5 (.slice K2.A6 K2.rss.length K2.c6)).set 6 (.bool K2.dirty))
  have fR := ((((((((Fr.refl (fun q => q = w.heap.size + 3) v9).setCell (p := ⟨w.heap.size + 3, 0, none⟩) (.inl rfl) (.slice K2.A1 K2.own.length K2.c1)).setCell (p := ⟨w.heap.size + 3, 1, none⟩) (.inl rfl) (.slice K2.A2 K2.rts.length K2.c2)).setCell (p := ⟨w.heap.size + 3, 2, none⟩) (.inl rfl) (.slice K2.A3 K2.pts.length K2.c3)).setCell (p := ⟨w.heap.size + 3, 3, none⟩) (.inl rfl) (.slice K2.A4 K2.crs.length K2.c4)).setCell (p := ⟨w.heap.size + 3, 4, none⟩) (.inl rfl) (.slice K2.A5 K2.lns.length K2.c5)).setCell (p := ⟨w.heap.size + 3, 5, none⟩) (.inl rfl) (.slice K2.A6 K2.rss.length K2.c6)).setCell (p := ⟨w.heap.size + 3, 6, none⟩) (.inl rfl) (.bool K2.dirty))
  simp only [List.setIfInBounds_toArray, List.set_cons_zero, List.set_cons_succ] at isR
  generalize hW : World.setCell _ _ _ = W at *
  have c0 := isR.cell 0
  have c1 := isR.cell 1
  have c2 := isR.cell 2
  have c3 := isR.cell 3
  have c4 := isR.cell 4
  have c5 := isR.cell 5
  have c6 := isR.cell 6
  have HOW : K2.Own w.heap.size W := (HO2.out.fr fR fun k hk e => by have a := (HO2.out.lt k hk).1; have b := HS9.out; omega).base (by have a := HF.out.size; omega)
  have FW : Fr (fun _ => False) w W := HF9.out.trans fR fun k hk e => by omega
  refine bodyPost_ret (v := .tuple #[K2.val, .int .i64 _]) ?_ rfl ⟨K2, rfl, HK2.out, HOW, FW⟩
  unfold Km.val Km.arr
  simp [results, Tryz.results20, go_sem, c0, c1, c2, c3, c4, c5, c6]
 rw [if_neg q1]
 have d1 : (kd == 1) = false := by simpa using q1
 clear q1
 by_cases q2 : kd = 2
 ·rw [if_pos q2]
  have KX := KCA
  subst q2
  clear KRQ KCA KRS KRL KRT KTH
  generalize hy : gateM C.cf K.kp (tmB now) (goM C.cf K.kp now n [1, 2, 3]) = y at *
  clear hy
  unfold Cm.val Km.val Cm.arr Km.arr at *
  go_enter Tryz.func20, Tryz.ntmps20
  go_upto_region 1 with fail
  generalize ((((w.alloc _).alloc _).alloc _).alloc _) = w0 at *
  obtain ⟨p0, p1, p2, p3, p4, p5, p6, p7, p8⟩ := conf_cells0 HIC.out
  obtain ⟨k0, k1, k2, k3, k4, k5, k6⟩ := core_cells (K := K) HIK.out
  obtain ⟨x0, x1, x2, x3⟩ := four9 HIX.out
  skip
  go_wp2_with fail
  refine (KX _ HF.out).mono ?_
  rintro _ v9 ⟨K2, rfl, hk2, o2, fv⟩
  have isr := HIR.out.fr fv id
  have HS9 : Hid (w.heap.size + 3 < w0.heap.size) := Lib.hid HIR.out.lt
  have HSZ := Lib.hid fv.size
  have HO2 := Lib.hid o2
  have HK2 := Lib.hid hk2
  have HF9 := Lib.hid (fr_nil HF.out fv)
  obtain ⟨m0, m1, m2, m3, m4, m5, m6⟩ := seven isr
  have z0 := isr.frozen 0
  have z1 := isr.frozen 1
  have z2 := isr.frozen 2
  have z3 := isr.frozen 3
  have z4 := isr.frozen 4
  have z5 := isr.frozen 5
  have z6 := isr.frozen 6
  clear o2 hk2 fv k0 k1 k2 k3 k4 k5 k6 p0 p1 p2 p3 p4 p5 p6 p7 p8 x0 x1 x2 x3 KX
  unfold Km.val Km.arr
  go_wp2_with fail
  have isR := (((((((isr.set 0 (.slice K2.A1 K2.own.length K2.c1)).set 1 (.slice K2.A2 K2.rts.length K2.c2)).set 2 (.slice K2.A3 K2.pts.length K2.c3)).set 3 (.slice K2.A4 K2.crs.length K2.c4)).set 4 (.slice K2.A5 K2.lns.length K2.c5)).set 5 (.slice K2.A6 K2.rss.length K2.c6)).set 6 (.bool K2.dirty))
  have fR := ((((((((Fr.refl (fun q => q = w.heap.size + 3) v9).setCell (p := ⟨w.heap.size + 3, 0, none⟩) (.inl rfl) (.slice K2.A1 K2.own.length K2.c1)).setCell (p := ⟨w.heap.size + 3, 1, none⟩) (.inl rfl) (.slice K2.A2 K2.rts.length K2.c2)).setCell (p := ⟨w.heap.size + 3, 2, none⟩) (.inl rfl) (.slice K2.A3 K2.pts.length K2.c3)).setCell (p := ⟨w.heap.size + 3, 3, none⟩) (.inl rfl) (.slice K2.A4 K2.crs.length K2.c4)).setCell (p := ⟨w.heap.size + 3, 4, none⟩) (.inl rfl) (.slice K2.A5 K2.lns.length K2.c5)).setCell (p := ⟨w.heap.size + 3, 5, none⟩) (.inl rfl) (.slice K2.A6 K2.rss.length K2.c6)).setCell (p := ⟨w.heap.size + 3, 6, none⟩) (.inl rfl) (.bool K2.dirty))
  simp only [List.setIfInBounds_toArray, List.set_cons_zero, List.set_cons_succ] at isR
  generalize hW : World.setCell _ _ _ = W at *
  have c0 := isR.cell 0
  have c1 := isR.cell 1
  have c2 := isR.cell 2
  have c3 := isR.cell 3
  have c4 := isR.cell 4
  have c5 := isR.cell 5
  have c6 := isR.cell 6
  have HOW : K2.Own w.heap.size W := (HO2.out.fr fR fun k hk e => by have a := (HO2.out.lt k hk).1; have b := HS9.out; omega).base (by have a := HF.out.size; omega)
  have FW : Fr (fun _ => False) w W := HF9.out.trans fR fun k hk e => by omega
  refine bodyPost_ret (v := .tuple #[K2.val, .int .i64 _]) ?_ rfl ⟨K2, rfl, HK2.out, HOW, FW⟩
  unfold Km.val Km.arr
  simp [results, Tryz.results20, go_sem, c0, c1, c2, c3, c4, c5, c6]
 rw [if_neg q2]
 have d2 : (kd == 2) = false := by simpa using q2
 clear q2
 by_cases q3 : kd = 3
 ·rw [if_pos q3]
  have KX := KRS
  subst q3
  clear KRQ KCA KRS KRL KRT KTH
  generalize hy : gateM C.cf K.kp true (restM C.cf K.kp n) = y at *
  clear hy
  unfold Cm.val Km.val Cm.arr Km.arr at *
  go_enter Tryz.func20, Tryz.ntmps20
  go_upto_region 1 with fail
  generalize ((((w.alloc _).alloc _).alloc _).alloc _) = w0 at *
  obtain ⟨p0, p1, p2, p3, p4, p5, p6, p7, p8⟩ := conf_cells0 HIC.out
  obtain ⟨k0, k1, k2, k3, k4, k5, k6⟩ := core_cells (K := K) HIK.out
  obtain ⟨x0, x1, x2, x3⟩ := four9 HIX.out
  skip
  go_wp2_with fail
  refine (KX _ HF.out).mono ?_
  rintro _ v9 ⟨K2, rfl, hk2, o2, fv⟩
  have isr := HIR.out.fr fv id
  have HS9 : Hid (w.heap.size + 3 < w0.heap.size) := Lib.hid HIR.out.lt
  have HSZ := Lib.hid fv.size
  have HO2 := Lib.hid o2
  have HK2 := Lib.hid hk2
  have HF9 := Lib.hid (fr_nil HF.out fv)
  obtain ⟨m0, m1, m2, m3, m4, m5, m6⟩ := seven isr
  have z0 := isr.frozen 0
  have z1 := isr.frozen 1
  have z2 := isr.frozen 2
  have z3 := isr.frozen 3
  have z4 := isr.frozen 4
  have z5 := isr.frozen 5
  have z6 := isr.frozen 6
  clear o2 hk2 fv k0 k1 k2 k3 k4 k5 k6 p0 p1 p2 p3 p4 p5 p6 p7 p8 x0 x1 x2 x3 KX
  unfold Km.val Km.arr
  go_wp2_with fail
  have isR := (((((((isr.set 0 (.slice K2.A1 K2.own.length K2.c1)).set 1 (.slice K2.A2 K2.rts.length K2.c2)).set 2 (.slice K2.A3 K2.pts.length K2.c3)).set 3 (.slice K2.A4 K2.crs.length K2.c4)).set 4 (.slice K2.A5 K2.lns.length K2.c5)).set 5 (.slice K2.A6 K2.rss.length K2.c6)).set 6 (.bool K2.dirty))
  have fR := ((((((((Fr.refl (fun q => q = w.heap.size + 3) v9).setCell (p := ⟨w.heap.size + 3, 0, none⟩) (.inl rfl) (.slice K2.A1 K2.own.length K2.c1)).setCell (p := ⟨w.heap.size + 3, 1, none⟩) (.inl rfl) (.slice K2.A2 K2.rts.length K2.c2)).setCell (p := ⟨w.heap.size + 3, 2, none⟩) (.inl rfl) (.slice K2.A3 K2.pts.length K2.c3)).setCell (p := ⟨w.heap.size + 3, 3, none⟩) (.inl rfl) (.slice K2.A4 K2.crs.length K2.c4)).setCell (p := ⟨w.heap.size + 3, 4, none⟩) (.inl rfl) (.slice K2.A5 K2.lns.length K2.c5)).setCell (p := ⟨w.heap.size + 3, 5, none⟩) (.inl rfl) (.slice K2.A6 K2.rss.length K2.c6)).setCell (p := ⟨w.heap.size + 3, 6, none⟩) (.inl rfl) (.bool K2.dirty))
  simp only [List.setIfInBounds_toArray, List.set_cons_zero, List.set_cons_succ] at isR
  generalize hW : World.setCell _ _ _ = W at *
  have c0 := isR.cell 0
  have c1 := isR.cell 1
  have c2 := isR.cell 2
  have c3 := isR.cell 3
  have c4 := isR.cell 4
  have c5 := isR.cell 5
  have c6 := isR.cell 6
  have HOW : K2.Own w.heap.size W := (HO2.out.fr fR fun k hk e => by have a := (HO2.out.lt k hk).1; have b := HS9.out; omega).base (by have a := HF.out.size; omega)
  have FW : Fr (fun _ => False) w W := HF9.out.trans fR fun k hk e => by omega
  refine bodyPost_ret (v := .tuple #[K2.val, .int .i64 _]) ?_ rfl ⟨K2, rfl, HK2.out, HOW, FW⟩
  unfold Km.val Km.arr
  simp [results, Tryz.results20, go_sem, c0, c1, c2, c3, c4, c5, c6]
 rw [if_neg q3]
 have d3 : (kd == 3) = false := by simpa using q3
 clear q3
 by_cases q4 : kd = 4
 ·rw [if_pos q4]
  have KX := KRL
  subst q4
  clear KRQ KCA KRS KRL KRT KTH
  generalize hy : gateM C.cf K.kp (tmB now) (goM C.cf K.kp now n [5]) = y at *
  clear hy
  unfold Cm.val Km.val Cm.arr Km.arr at *
  go_enter Tryz.func20, Tryz.ntmps20
  go_upto_region 1 with fail
  generalize ((((w.alloc _).alloc _).alloc _).alloc _) = w0 at *
  obtain ⟨p0, p1, p2, p3, p4, p5, p6, p7, p8⟩ := conf_cells0 HIC.out
  obtain ⟨k0, k1, k2, k3, k4, k5, k6⟩ := core_cells (K := K) HIK.out
  obtain ⟨x0, x1, x2, x3⟩ := four9 HIX.out
  skip
  go_wp2_with fail
  refine (KX _ HF.out).mono ?_
  rintro _ v9 ⟨K2, rfl, hk2, o2, fv⟩
  have isr := HIR.out.fr fv id
  have HS9 : Hid (w.heap.size + 3 < w0.heap.size) := Lib.hid HIR.out.lt
  have HSZ := Lib.hid fv.size
  have HO2 := Lib.hid o2
  have HK2 := Lib.hid hk2
  have HF9 := Lib.hid (fr_nil HF.out fv)
  obtain ⟨m0, m1, m2, m3, m4, m5, m6⟩ := seven isr
  have z0 := isr.frozen 0
  have z1 := isr.frozen 1
  have z2 := isr.frozen 2
  have z3 := isr.frozen 3
  have z4 := isr.frozen 4
  have z5 := isr.frozen 5
  have z6 := isr.frozen 6
  clear o2 hk2 fv k0 k1 k2 k3 k4 k5 k6 p0 p1 p2 p3 p4 p5 p6 p7 p8 x0 x1 x2 x3 KX
  unfold Km.val Km.arr
  go_wp2_with fail
  have isR := (((((((isr.set 0 (.slice K2.A1 K2.own.length K2.c1)).set 1 (.slice K2.A2 K2.rts.length K2.c2)).set 2 (.slice K2.A3 K2.pts.length K2.c3)).set 3 (.slice K2.A4 K2.crs.length K2.c4)).set 4 (.slice K2.A5 K2.lns.length K2.c5)).set 5 (.slice K2.A6 K2.rss.length K2.c6)).set 6 (.bool K2.dirty))
  have fR := ((((((((Fr.refl (fun q => q = w.heap.size + 3) v9).setCell (p := ⟨w.heap.size + 3, 0, none⟩) (.inl rfl) (.slice K2.A1 K2.own.length K2.c1)).setCell (p := ⟨w.heap.size + 3, 1, none⟩) (.inl rfl) (.slice K2.A2 K2.rts.length K2.c2)).setCell (p := ⟨w.heap.size + 3, 2, none⟩) (.inl rfl) (.slice K2.A3 K2.pts.length K2.c3)).setCell (p := ⟨w.heap.size + 3, 3, none⟩) (.inl rfl) (.slice K2.A4 K2.crs.length K2.c4)).setCell (p := ⟨w.heap.size + 3, 4, none⟩) (.inl rfl) (.slice K2.A5 K2.lns.length K2.c5)).setCell (p := ⟨w.heap.size + 3, 5, none⟩) (.inl rfl) (.slice K2.A6 K2.rss.length K2.c6)).setCell (p := ⟨w.heap.size + 3, 6, none⟩) (.inl rfl) (.bool K2.dirty))
  simp only [List.setIfInBounds_toArray, List.set_cons_zero, List.set_cons_succ] at isR
  generalize hW : World.setCell _ _ _ = W at *
  have c0 := isR.cell 0
  have c1 := isR.cell 1
  have c2 := isR.cell 2
  have c3 := isR.cell 3
  have c4 := isR.cell 4
  have c5 := isR.cell 5
  have c6 := isR.cell 6
  have HOW : K2.Own w.heap.size W := (HO2.out.fr fR fun k hk e => by have a := (HO2.out.lt k hk).1; have b := HS9.out; omega).base (by have a := HF.out.size; omega)
  have FW : Fr (fun _ => False) w W := HF9.out.trans fR fun k hk e => by omega
  refine bodyPost_ret (v := .tuple #[K2.val, .int .i64 _]) ?_ rfl ⟨K2, rfl, HK2.out, HOW, FW⟩
  unfold Km.val Km.arr
  simp [results, Tryz.results20, go_sem, c0, c1, c2, c3, c4, c5, c6]
 rw [if_neg q4]
 have d4 : (kd == 4) = false := by simpa using q4
 clear q4
 by_cases q5 : kd = 5
 ·rw [if_pos q5]
  have KX := KRT
  subst q5
  clear KRQ KCA KRS KRL KRT KTH
  generalize hy : gateM C.cf K.kp (tmB now) (resetM C.cf K.kp now n) = y at *
  clear hy
  unfold Cm.val Km.val Cm.arr Km.arr at *
  go_enter Tryz.func20, Tryz.ntmps20
  go_upto_region 1 with fail
  generalize ((((w.alloc _).alloc _).alloc _).alloc _) = w0 at *
  obtain ⟨p0, p1, p2, p3, p4, p5, p6, p7, p8⟩ := conf_cells0 HIC.out
  obtain ⟨k0, k1, k2, k3, k4, k5, k6⟩ := core_cells (K := K) HIK.out
  obtain ⟨x0, x1, x2, x3⟩ := four9 HIX.out
  skip
  go_wp2_with fail
  refine (KX _ HF.out).mono ?_
  rintro _ v9 ⟨K2, rfl, hk2, o2, fv⟩
  have isr := HIR.out.fr fv id
  have HS9 : Hid (w.heap.size + 3 < w0.heap.size) := Lib.hid HIR.out.lt
  have HSZ := Lib.hid fv.size
  have HO2 := Lib.hid o2
  have HK2 := Lib.hid hk2
  have HF9 := Lib.hid (fr_nil HF.out fv)
  obtain ⟨m0, m1, m2, m3, m4, m5, m6⟩ := seven isr
  have z0 := isr.frozen 0
  have z1 := isr.frozen 1
  have z2 := isr.frozen 2
  have z3 := isr.frozen 3
  have z4 := isr.frozen 4
  have z5 := isr.frozen 5
  have z6 := isr.frozen 6
  clear o2 hk2 fv k0 k1 k2 k3 k4 k5 k6 p0 p1 p2 p3 p4 p5 p6 p7 p8 x0 x1 x2 x3 KX
  unfold Km.val Km.arr
  go_wp2_with fail
  have isR := (((((((isr.set 0 (.slice K2.A1 K2.own.length K2.c1)).set 1 (.slice K2.A2 K2.rts.length K2.c2)).set 2 (.slice K2.A3 K2.pts.length K2.c3)).set 3 (.slice K2.A4 K2.crs.length K2.c4)).set 4 (.slice K2.A5 K2.lns.length K2.c5)).set 5 (.slice K2.A6 K2.rss.length K2.c6)).set 6 (.bool K2.dirty))
  have fR := ((((((((Fr.refl (fun q => q = w.heap.size + 3) v9).setCell (p := ⟨w.heap.size + 3, 0, none⟩) (.inl rfl) (.slice K2.A1 K2.own.length K2.c1)).setCell (p := ⟨w.heap.size + 3, 1, none⟩) (.inl rfl) (.slice K2.A2 K2.rts.length K2.c2)).setCell (p := ⟨w.heap.size + 3, 2, none⟩) (.inl rfl) (.slice K2.A3 K2.pts.length K2.c3)).setCell (p := ⟨w.heap.size + 3, 3, none⟩) (.inl rfl) (.slice K2.A4 K2.crs.length K2.c4)).setCell (p := ⟨w.heap.size + 3, 4, none⟩) (.inl rfl) (.slice K2.A5 K2.lns.length K2.c5)).setCell (p := ⟨w.heap.size + 3, 5, none⟩) (.inl rfl) (.slice K2.A6 K2.rss.length K2.c6)).setCell (p := ⟨w.heap.size + 3, 6, none⟩) (.inl rfl) (.bool K2.dirty))
  simp only [List.setIfInBounds_toArray, List.set_cons_zero, List.set_cons_succ] at isR
  generalize hW : World.setCell _ _ _ = W at *
  have c0 := isR.cell 0
  have c1 := isR.cell 1
  have c2 := isR.cell 2
  have c3 := isR.cell 3
  have c4 := isR.cell 4
  have c5 := isR.cell 5
  have c6 := isR.cell 6
  have HOW : K2.Own w.heap.size W := (HO2.out.fr fR fun k hk e => by have a := (HO2.out.lt k hk).1; have b := HS9.out; omega).base (by have a := HF.out.size; omega)
  have FW : Fr (fun _ => False) w W := HF9.out.trans fR fun k hk e => by omega
  refine bodyPost_ret (v := .tuple #[K2.val, .int .i64 _]) ?_ rfl ⟨K2, rfl, HK2.out, HOW, FW⟩
  unfold Km.val Km.arr
  simp [results, Tryz.results20, go_sem, c0, c1, c2, c3, c4, c5, c6]
 rw [if_neg q5]
 have d5 : (kd == 5) = false := by simpa using q5
 clear q5
 have KX := KTH
 clear KRQ KCA KRS KRL KRT KTH
 generalize hy : gateM C.cf K.kp (tmB now) (throwM C.cf K.kp now n pos) = y at *
 clear hy
 unfold Cm.val Km.val Cm.arr Km.arr at *
 go_enter Tryz.func20, Tryz.ntmps20
 go_upto_region 1 with fail
 generalize ((((w.alloc _).alloc _).alloc _).alloc _) = w0 at *
 obtain ⟨p0, p1, p2, p3, p4, p5, p6, p7, p8⟩ := conf_cells0 HIC.out
 obtain ⟨k0, k1, k2, k3, k4, k5, k6⟩ := core_cells (K := K) HIK.out
 obtain ⟨x0, x1, x2, x3⟩ := four9 HIX.out
 skip
 go_wp2_with fail
 refine (KX _ HF.out).mono ?_
 rintro _ v9 ⟨K2, rfl, hk2, o2, fv⟩
 have isr := HIR.out.fr fv id
 have HS9 : Hid (w.heap.size + 3 < w0.heap.size) := Lib.hid HIR.out.lt
 have HSZ := Lib.hid fv.size
 have HO2 := Lib.hid o2
 have HK2 := Lib.hid hk2
 have HF9 := Lib.hid (fr_nil HF.out fv)
 obtain ⟨m0, m1, m2, m3, m4, m5, m6⟩ := seven isr
 have z0 := isr.frozen 0
 have z1 := isr.frozen 1
 have z2 := isr.frozen 2
 have z3 := isr.frozen 3
 have z4 := isr.frozen 4
 have z5 := isr.frozen 5
 have z6 := isr.frozen 6
 clear o2 hk2 fv k0 k1 k2 k3 k4 k5 k6 p0 p1 p2 p3 p4 p5 p6 p7 p8 x0 x1 x2 x3 KX
 unfold Km.val Km.arr
 go_wp2_with fail
 have isR := (((((((isr.set 0 (.slice K2.A1 K2.own.length K2.c1)).set 1 (.slice K2.A2 K2.rts.length K2.c2)).set 2 (.slice K2.A3 K2.pts.length K2.c3)).set 3 (.slice K2.A4 K2.crs.length K2.c4)).set 4 (.slice K2.A5 K2.lns.length K2.c5)).set 5 (.slice K2.A6 K2.rss.length K2.c6)).set 6 (.bool K2.dirty))
 have fR := ((((((((Fr.refl (fun q => q = w.heap.size + 3) v9).setCell (p := ⟨w.heap.size + 3, 0, none⟩) (.inl rfl) (.slice K2.A1 K2.own.length K2.c1)).setCell (p := ⟨w.heap.size + 3, 1, none⟩) (.inl rfl) (.slice K2.A2 K2.rts.length K2.c2)).setCell (p := ⟨w.heap.size + 3, 2, none⟩) (.inl rfl) (.slice K2.A3 K2.pts.length K2.c3)).setCell (p := ⟨w.heap.size + 3, 3, none⟩) (.inl rfl) (.slice K2.A4 K2.crs.length K2.c4)).setCell (p := ⟨w.heap.size + 3, 4, none⟩) (.inl rfl) (.slice K2.A5 K2.lns.length K2.c5)).setCell (p := ⟨w.heap.size + 3, 5, none⟩) (.inl rfl) (.slice K2.A6 K2.rss.length K2.c6)).setCell (p := ⟨w.heap.size + 3, 6, none⟩) (.inl rfl) (.bool K2.dirty))
 simp only [List.setIfInBounds_toArray, List.set_cons_zero, List.set_cons_succ] at isR
 generalize hW : World.setCell _ _ _ = W at *
 have c0 := isR.cell 0
 have c1 := isR.cell 1
 have c2 := isR.cell 2
 have c3 := isR.cell 3
 have c4 := isR.cell 4
 have c5 := isR.cell 5
 have c6 := isR.cell 6
 have HOW : K2.Own w.heap.size W := (HO2.out.fr fR fun k hk e => by have a := (HO2.out.lt k hk).1; have b := HS9.out; omega).base (by have a := HF.out.size; omega)
 have FW : Fr (fun _ => False) w W := HF9.out.trans fR fun k hk e => by omega
 refine bodyPost_ret (v := .tuple #[K2.val, .int .i64 _]) ?_ rfl ⟨K2, rfl, HK2.out, HOW, FW⟩
 unfold Km.val Km.arr
 simp [results, Tryz.results20, go_sem, c0, c1, c2, c3, c4, c5, c6]
end Go.Proofs.YtginfnbdnkgjbaaGreat.Lk

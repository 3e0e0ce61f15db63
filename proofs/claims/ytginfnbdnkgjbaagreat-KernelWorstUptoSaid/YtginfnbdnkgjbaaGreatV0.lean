import Derived.Deep.RegionHeld3
import Derived.Deep.LoopGhost
import Derived.BigQuiet
import Derived.Deep.CutRange
import Derived.Test.YtginfnbdnkgjbaaGreatKc
import Derived.Test.YtginfnbdnkgjbaaGreatKg
import Derived.Test.YtginfnbdnkgjbaaGreatKh
import Derived.Test.YtginfnbdnkgjbaaGreatKj
import Derived.Test.YtginfnbdnkgjbaaGreatKa
import Derived.Test.YtginfnbdnkgjbaaGreatLfit2
import Derived.Test.YtginfnbdnkgjbaaGreatLclone
/- Contracts and plain mathematics of earlier stages: Rck. -/
namespace Go.Proofs.YtginfnbdnkgjbaaGreat
open Go.RowKit
theorem conf_cells0 {w : World} {b : Nat} {v0 v1 v2 v3 v4 v5 v6 v7 v8 : Value} {t : TypeId} (h : Is w b t #[v0, v1, v2, v3, v4, v5, v6, v7, v8]) : w.cell? ⟨b, 0, none⟩ = some v0 ∧ w.cell? ⟨b, 1, none⟩ = some v1 ∧ w.cell? ⟨b, 2, none⟩ = some v2 ∧ w.cell? ⟨b, 3, none⟩ = some v3 ∧ w.cell? ⟨b, 4, none⟩ = some v4 ∧ w.cell? ⟨b, 5, none⟩ = some v5 ∧ w.cell? ⟨b, 6, none⟩ = some v6 ∧ w.cell? ⟨b, 7, none⟩ = some v7 ∧ w.cell? ⟨b, 8, none⟩ = some v8 :=
  ⟨h.cell 0, h.cell 1, h.cell 2, h.cell 3, h.cell 4, h.cell 5, h.cell 6, h.cell 7, h.cell 8⟩
theorem time_parts (t : Tm) : timeB t = ((decide (1 ≤ t.age) && decide (t.age ≤ 8)) && ((decide (0 ≤ t.brake) && decide (t.brake ≤ 8)) && ((decide (t.age + t.brake + 1 ≤ t.hold) && decide (t.hold ≤ 40)) && (decide (1 ≤ t.budget) && decide (t.budget ≤ 1000000))))) := rfl
end Go.Proofs.YtginfnbdnkgjbaaGreat
/- The contracts of the program's suits, Fits. -/
namespace Go.Proofs.YtginfnbdnkgjbaaGreat.Lk
open Go.RowKit

theorem core_cells {w : World} {b : Nat} {K : Km} (h : Is w b 35 K.arr) : w.cell? ⟨b, 0, none⟩ = some (.slice K.A1 K.own.length K.c1) ∧ w.cell? ⟨b, 1, none⟩ = some (.slice K.A2 K.rts.length K.c2) ∧ w.cell? ⟨b, 2, none⟩ = some (.slice K.A3 K.pts.length K.c3) ∧ w.cell? ⟨b, 3, none⟩ = some (.slice K.A4 K.crs.length K.c4) ∧ w.cell? ⟨b, 4, none⟩ = some (.slice K.A5 K.lns.length K.c5) ∧ w.cell? ⟨b, 5, none⟩ = some (.slice K.A6 K.rss.length K.c6) ∧ w.cell? ⟨b, 6, none⟩ = some (.bool K.dirty) :=
  ⟨h.cell 0, h.cell 1, h.cell 2, h.cell 3, h.cell 4, h.cell 5, h.cell 6⟩
set_option maxRecDepth 100000 in
set_option maxHeartbeats 8000000 in
theorem suits_any (C : Cm) (K : Km) (w : World) (h : C.Ok w) (hK : K.Ok w) :
    Calls Tryz.prog 48 #[C.val, K.val] w fun e w' => e = .returned (.bool (suitsB C.cf K.kp)) ∧ Fr (fun _ => False) w w' := by
  have hb5 := h.b5
  have k1 := hK.b1
  have k6 := hK.b6
  have HL := fun W => lengths_raw (A1 := C.A1) (A2 := C.A2) (A3 := C.A3) (A4 := C.A4) (A5 := C.A5) (B1 := K.A1) (B2 := K.A2) (B3 := K.A3) (B4 := K.A4) (B5 := K.A5) (B6 := K.A6) (s := C.l.length) (j := C.js.length) (g := C.sg.length) (x := C.cr.length) (r := C.rs.length) (c1 := C.c1) (c2 := C.c2) (c3 := C.c3) (c4 := C.c4) (c5 := C.c5) (n1 := K.own.length) (n2 := K.rts.length) (n3 := K.pts.length) (n4 := K.crs.length) (n5 := K.lns.length) (n6 := K.rss.length) (d1 := K.c1) (d2 := K.c2) (d3 := K.c3) (d4 := K.c4) (d5 := K.c5) (d6 := K.c6) (t0 := C.tm.age) (t1 := C.tm.brake) (t2 := C.tm.hold) (t3 := C.tm.budget) (dy := K.dirty) W
  have hlens : lensB C.cf K.kp = (decide (K.own.length = C.l.length) && (decide (K.rts.length = C.rs.length) && (decide (K.pts.length = C.l.length) && (decide (K.crs.length = C.cr.length) && (decide (K.lns.length = 4) && decide (K.rss.length = C.l.length)))))) := by
    unfold lensB Cm.cf Km.kp
    dsimp only
    rw [List.length_map]
  rw [← hlens] at HL
  have K1 := fun W (f : Fr (fun _ => False) w W) => within_any (c := K.c1) (-2) C.rs.length K.own W (hK.own.fr f fun _ _ => id) (by omega)
  have K2 := fun (hr : K.rts.length = C.rs.length) W (f : Fr (fun _ => False) w W) => routes_any (c := K.c2) (c' := C.c5) C.rs K.rts W (hK.rts.fr f fun _ _ => id) (h.rts.fr f fun _ _ => id) hK.b2 hr
  have K3 := fun W (f : Fr (fun _ => False) w W) => movers_any (c := K.c3) K.pts W (hK.pts.fr f fun _ _ => id) hK.b3
  have K4 := fun W (f : Fr (fun _ => False) w W) => movers_any (c := K.c4) K.crs W (hK.crs.fr f fun _ _ => id) hK.b4
  have K5 := fun W (f : Fr (fun _ => False) w W) => lines_any (c := K.c5) K.lns W (hK.lns.fr f fun _ _ => id) hK.b5
  have K6 := fun W (f : Fr (fun _ => False) w W) => within_any (c := K.c6) 0 4294967296 K.rss W (hK.rss.fr f fun _ _ => id) (by omega)
  have hS : suitsB C.cf K.kp = (lensB C.cf K.kp && (K.own.all (inB (-2) C.rs.length) && (rtsB (C.rs.map Ro.rt) K.rts && (K.pts.all moB && (K.crs.all moB && (K.lns.all lnB && K.rss.all (inB 0 4294967296))))))) := by
    unfold suitsB Cm.cf Km.kp
    dsimp only
    rw [List.length_map]
  rw [hS]
  have hrl0 : lensB C.cf K.kp = true → K.rts.length = C.rs.length := by
    rw [hlens]
    simp only [Bool.and_eq_true, decide_eq_true_eq]
    exact fun h => h.2.1
  have hrl := Lib.hid hrl0
  clear hrl0
  generalize lensB C.cf K.kp = b0 at *
  generalize K.own.all (inB (-2) C.rs.length) = b1 at *
  generalize rtsB (C.rs.map Ro.rt) K.rts = b2 at *
  generalize K.pts.all moB = b3 at *
  generalize K.crs.all moB = b4 at *
  generalize K.lns.all lnB = b5 at *
  generalize K.rss.all (inB 0 4294967296) = b6 at *
  have HF0 := Lib.hid (((Fr.refl (fun _ => False) w).alloc (.cells C.arr 30)).alloc (.cells K.arr 35))
  have HIC := Lib.hid ((Is.new w 30 C.arr).alloc (.cells K.arr 35))
  have HIK := Lib.hid (Is.new (w.alloc (.cells C.arr 30)) 35 K.arr)
  rw [show (w.alloc (.cells C.arr 30)).heap.size = w.heap.size + 1 by simp] at HIK
  clear hlens hS h hK hb5 k1 k6
  unfold Cm.val Km.val Cm.arr Km.arr at *
  cases b0
  · go_enter Tryz.func48, Tryz.ntmps48
    go_upto_region 1 with (fail)
    have F := HF0.out
    have isc := HIC.out
    have isk := HIK.out
    clear HF0 HIC HIK
    generalize ((w.alloc _).alloc _) = w0 at *
    obtain ⟨p0, p1, p2, p3, p4, p5, p6, p7, p8⟩ := conf_cells0 isc
    obtain ⟨k0, k1, k2, k3, k4, k5, k6⟩ := core_cells (K := K) isk
    go_wp2_with fail
    refine (HL _).mono ?_
    rintro _ v0 ⟨rfl, fv⟩
    have isc := isc.fr fv id
    have isk := isk.fr fv id
    have F := fr_nil F fv
    clear fv p0 p1 p2 p3 p4 p5 p6 p7 p8 k0 k1 k2 k3 k4 k5 k6
    go_wp2_with fail
    go_ret
    exact ⟨rfl, F⟩
  · skip
    cases b1
    · go_enter Tryz.func48, Tryz.ntmps48
      go_upto_region 1 with (fail)
      have F := HF0.out
      have isc := HIC.out
      have isk := HIK.out
      clear HF0 HIC HIK
      generalize ((w.alloc _).alloc _) = w0 at *
      obtain ⟨p0, p1, p2, p3, p4, p5, p6, p7, p8⟩ := conf_cells0 isc
      obtain ⟨k0, k1, k2, k3, k4, k5, k6⟩ := core_cells (K := K) isk
      go_wp2_with fail
      refine (HL _).mono ?_
      rintro _ v0 ⟨rfl, fv⟩
      have isc := isc.fr fv id
      have isk := isk.fr fv id
      have F := fr_nil F fv
      clear fv p0 p1 p2 p3 p4 p5 p6 p7 p8 k0 k1 k2 k3 k4 k5 k6
      obtain ⟨p0, p1, p2, p3, p4, p5, p6, p7, p8⟩ := conf_cells0 isc
      obtain ⟨k0, k1, k2, k3, k4, k5, k6⟩ := core_cells (K := K) isk
      go_wp2_with fail
      refine (K1 _ F).mono ?_
      rintro _ v1 ⟨rfl, fv⟩
      have isc := isc.fr fv id
      have isk := isk.fr fv id
      have F := fr_nil F fv
      clear fv p0 p1 p2 p3 p4 p5 p6 p7 p8 k0 k1 k2 k3 k4 k5 k6
      go_wp2_with fail
      go_ret
      exact ⟨rfl, F⟩
    · skip
      cases b2
      · go_enter Tryz.func48, Tryz.ntmps48
        go_upto_region 1 with (fail)
        have F := HF0.out
        have isc := HIC.out
        have isk := HIK.out
        clear HF0 HIC HIK
        generalize ((w.alloc _).alloc _) = w0 at *
        obtain ⟨p0, p1, p2, p3, p4, p5, p6, p7, p8⟩ := conf_cells0 isc
        obtain ⟨k0, k1, k2, k3, k4, k5, k6⟩ := core_cells (K := K) isk
        go_wp2_with fail
        refine (HL _).mono ?_
        rintro _ v0 ⟨rfl, fv⟩
        have isc := isc.fr fv id
        have isk := isk.fr fv id
        have F := fr_nil F fv
        clear fv p0 p1 p2 p3 p4 p5 p6 p7 p8 k0 k1 k2 k3 k4 k5 k6
        obtain ⟨p0, p1, p2, p3, p4, p5, p6, p7, p8⟩ := conf_cells0 isc
        obtain ⟨k0, k1, k2, k3, k4, k5, k6⟩ := core_cells (K := K) isk
        go_wp2_with fail
        refine (K1 _ F).mono ?_
        rintro _ v1 ⟨rfl, fv⟩
        have isc := isc.fr fv id
        have isk := isk.fr fv id
        have F := fr_nil F fv
        clear fv p0 p1 p2 p3 p4 p5 p6 p7 p8 k0 k1 k2 k3 k4 k5 k6
        obtain ⟨p0, p1, p2, p3, p4, p5, p6, p7, p8⟩ := conf_cells0 isc
        obtain ⟨k0, k1, k2, k3, k4, k5, k6⟩ := core_cells (K := K) isk
        go_wp2_with fail
        refine (K2 (hrl.out (by first | rfl | trivial)) _ F).mono ?_
        rintro _ v2 ⟨rfl, fv⟩
        have isc := isc.fr fv id
        have isk := isk.fr fv id
        have F := fr_nil F fv
        clear fv p0 p1 p2 p3 p4 p5 p6 p7 p8 k0 k1 k2 k3 k4 k5 k6
        go_wp2_with fail
        go_ret
        exact ⟨rfl, F⟩
      · skip
        cases b3
        · go_enter Tryz.func48, Tryz.ntmps48
          go_upto_region 1 with (fail)
          have F := HF0.out
          have isc := HIC.out
          have isk := HIK.out
          clear HF0 HIC HIK
          generalize ((w.alloc _).alloc _) = w0 at *
          obtain ⟨p0, p1, p2, p3, p4, p5, p6, p7, p8⟩ := conf_cells0 isc
          obtain ⟨k0, k1, k2, k3, k4, k5, k6⟩ := core_cells (K := K) isk
          go_wp2_with fail
          refine (HL _).mono ?_
          rintro _ v0 ⟨rfl, fv⟩
          have isc := isc.fr fv id
          have isk := isk.fr fv id
          have F := fr_nil F fv
          clear fv p0 p1 p2 p3 p4 p5 p6 p7 p8 k0 k1 k2 k3 k4 k5 k6
          obtain ⟨p0, p1, p2, p3, p4, p5, p6, p7, p8⟩ := conf_cells0 isc
          obtain ⟨k0, k1, k2, k3, k4, k5, k6⟩ := core_cells (K := K) isk
          go_wp2_with fail
          refine (K1 _ F).mono ?_
          rintro _ v1 ⟨rfl, fv⟩
          have isc := isc.fr fv id
          have isk := isk.fr fv id
          have F := fr_nil F fv
          clear fv p0 p1 p2 p3 p4 p5 p6 p7 p8 k0 k1 k2 k3 k4 k5 k6
          obtain ⟨p0, p1, p2, p3, p4, p5, p6, p7, p8⟩ := conf_cells0 isc
          obtain ⟨k0, k1, k2, k3, k4, k5, k6⟩ := core_cells (K := K) isk
          go_wp2_with fail
          refine (K2 (hrl.out (by first | rfl | trivial)) _ F).mono ?_
          rintro _ v2 ⟨rfl, fv⟩
          have isc := isc.fr fv id
          have isk := isk.fr fv id
          have F := fr_nil F fv
          clear fv p0 p1 p2 p3 p4 p5 p6 p7 p8 k0 k1 k2 k3 k4 k5 k6
          obtain ⟨p0, p1, p2, p3, p4, p5, p6, p7, p8⟩ := conf_cells0 isc
          obtain ⟨k0, k1, k2, k3, k4, k5, k6⟩ := core_cells (K := K) isk
          go_wp2_with fail
          refine (K3 _ F).mono ?_
          rintro _ v3 ⟨rfl, fv⟩
          have isc := isc.fr fv id
          have isk := isk.fr fv id
          have F := fr_nil F fv
          clear fv p0 p1 p2 p3 p4 p5 p6 p7 p8 k0 k1 k2 k3 k4 k5 k6
          go_wp2_with fail
          go_ret
          exact ⟨rfl, F⟩
        · skip
          cases b4
          · go_enter Tryz.func48, Tryz.ntmps48
            go_upto_region 1 with (fail)
            have F := HF0.out
            have isc := HIC.out
            have isk := HIK.out
            clear HF0 HIC HIK
            generalize ((w.alloc _).alloc _) = w0 at *
            obtain ⟨p0, p1, p2, p3, p4, p5, p6, p7, p8⟩ := conf_cells0 isc
            obtain ⟨k0, k1, k2, k3, k4, k5, k6⟩ := core_cells (K := K) isk
            go_wp2_with fail
            refine (HL _).mono ?_
            rintro _ v0 ⟨rfl, fv⟩
            have isc := isc.fr fv id
            have isk := isk.fr fv id
            have F := fr_nil F fv
            clear fv p0 p1 p2 p3 p4 p5 p6 p7 p8 k0 k1 k2 k3 k4 k5 k6
            obtain ⟨p0, p1, p2, p3, p4, p5, p6, p7, p8⟩ := conf_cells0 isc
            obtain ⟨k0, k1, k2, k3, k4, k5, k6⟩ := core_cells (K := K) isk
            go_wp2_with fail
            refine (K1 _ F).mono ?_
            rintro _ v1 ⟨rfl, fv⟩
            have isc := isc.fr fv id
            have isk := isk.fr fv id
            have F := fr_nil F fv
            clear fv p0 p1 p2 p3 p4 p5 p6 p7 p8 k0 k1 k2 k3 k4 k5 k6
            obtain ⟨p0, p1, p2, p3, p4, p5, p6, p7, p8⟩ := conf_cells0 isc
            obtain ⟨k0, k1, k2, k3, k4, k5, k6⟩ := core_cells (K := K) isk
            go_wp2_with fail
            refine (K2 (hrl.out (by first | rfl | trivial)) _ F).mono ?_
            rintro _ v2 ⟨rfl, fv⟩
            have isc := isc.fr fv id
            have isk := isk.fr fv id
            have F := fr_nil F fv
            clear fv p0 p1 p2 p3 p4 p5 p6 p7 p8 k0 k1 k2 k3 k4 k5 k6
            obtain ⟨p0, p1, p2, p3, p4, p5, p6, p7, p8⟩ := conf_cells0 isc
            obtain ⟨k0, k1, k2, k3, k4, k5, k6⟩ := core_cells (K := K) isk
            go_wp2_with fail
            refine (K3 _ F).mono ?_
            rintro _ v3 ⟨rfl, fv⟩
            have isc := isc.fr fv id
            have isk := isk.fr fv id
            have F := fr_nil F fv
            clear fv p0 p1 p2 p3 p4 p5 p6 p7 p8 k0 k1 k2 k3 k4 k5 k6
            obtain ⟨p0, p1, p2, p3, p4, p5, p6, p7, p8⟩ := conf_cells0 isc
            obtain ⟨k0, k1, k2, k3, k4, k5, k6⟩ := core_cells (K := K) isk
            go_wp2_with fail
            refine (K4 _ F).mono ?_
            rintro _ v4 ⟨rfl, fv⟩
            have isc := isc.fr fv id
            have isk := isk.fr fv id
            have F := fr_nil F fv
            clear fv p0 p1 p2 p3 p4 p5 p6 p7 p8 k0 k1 k2 k3 k4 k5 k6
            go_wp2_with fail
            go_ret
            exact ⟨rfl, F⟩
          · skip
            cases b5
            · go_enter Tryz.func48, Tryz.ntmps48
              go_upto_region 1 with (fail)
              have F := HF0.out
              have isc := HIC.out
              have isk := HIK.out
              clear HF0 HIC HIK
              generalize ((w.alloc _).alloc _) = w0 at *
              obtain ⟨p0, p1, p2, p3, p4, p5, p6, p7, p8⟩ := conf_cells0 isc
              obtain ⟨k0, k1, k2, k3, k4, k5, k6⟩ := core_cells (K := K) isk
              go_wp2_with fail
              refine (HL _).mono ?_
              rintro _ v0 ⟨rfl, fv⟩
              have isc := isc.fr fv id
              have isk := isk.fr fv id
              have F := fr_nil F fv
              clear fv p0 p1 p2 p3 p4 p5 p6 p7 p8 k0 k1 k2 k3 k4 k5 k6
              obtain ⟨p0, p1, p2, p3, p4, p5, p6, p7, p8⟩ := conf_cells0 isc
              obtain ⟨k0, k1, k2, k3, k4, k5, k6⟩ := core_cells (K := K) isk
              go_wp2_with fail
              refine (K1 _ F).mono ?_
              rintro _ v1 ⟨rfl, fv⟩
              have isc := isc.fr fv id
              have isk := isk.fr fv id
              have F := fr_nil F fv
              clear fv p0 p1 p2 p3 p4 p5 p6 p7 p8 k0 k1 k2 k3 k4 k5 k6
              obtain ⟨p0, p1, p2, p3, p4, p5, p6, p7, p8⟩ := conf_cells0 isc
              obtain ⟨k0, k1, k2, k3, k4, k5, k6⟩ := core_cells (K := K) isk
              go_wp2_with fail
              refine (K2 (hrl.out (by first | rfl | trivial)) _ F).mono ?_
              rintro _ v2 ⟨rfl, fv⟩
              have isc := isc.fr fv id
              have isk := isk.fr fv id
              have F := fr_nil F fv
              clear fv p0 p1 p2 p3 p4 p5 p6 p7 p8 k0 k1 k2 k3 k4 k5 k6
              obtain ⟨p0, p1, p2, p3, p4, p5, p6, p7, p8⟩ := conf_cells0 isc
              obtain ⟨k0, k1, k2, k3, k4, k5, k6⟩ := core_cells (K := K) isk
              go_wp2_with fail
              refine (K3 _ F).mono ?_
              rintro _ v3 ⟨rfl, fv⟩
              have isc := isc.fr fv id
              have isk := isk.fr fv id
              have F := fr_nil F fv
              clear fv p0 p1 p2 p3 p4 p5 p6 p7 p8 k0 k1 k2 k3 k4 k5 k6
              obtain ⟨p0, p1, p2, p3, p4, p5, p6, p7, p8⟩ := conf_cells0 isc
              obtain ⟨k0, k1, k2, k3, k4, k5, k6⟩ := core_cells (K := K) isk
              go_wp2_with fail
              refine (K4 _ F).mono ?_
              rintro _ v4 ⟨rfl, fv⟩
              have isc := isc.fr fv id
              have isk := isk.fr fv id
              have F := fr_nil F fv
              clear fv p0 p1 p2 p3 p4 p5 p6 p7 p8 k0 k1 k2 k3 k4 k5 k6
              obtain ⟨p0, p1, p2, p3, p4, p5, p6, p7, p8⟩ := conf_cells0 isc
              obtain ⟨k0, k1, k2, k3, k4, k5, k6⟩ := core_cells (K := K) isk
              go_wp2_with fail
              refine (K5 _ F).mono ?_
              rintro _ v5 ⟨rfl, fv⟩
              have isc := isc.fr fv id
              have isk := isk.fr fv id
              have F := fr_nil F fv
              clear fv p0 p1 p2 p3 p4 p5 p6 p7 p8 k0 k1 k2 k3 k4 k5 k6
              go_wp2_with fail
              go_ret
              exact ⟨rfl, F⟩
            · skip
              cases b6
              · go_enter Tryz.func48, Tryz.ntmps48
                go_upto_region 1 with (fail)
                have F := HF0.out
                have isc := HIC.out
                have isk := HIK.out
                clear HF0 HIC HIK
                generalize ((w.alloc _).alloc _) = w0 at *
                obtain ⟨p0, p1, p2, p3, p4, p5, p6, p7, p8⟩ := conf_cells0 isc
                obtain ⟨k0, k1, k2, k3, k4, k5, k6⟩ := core_cells (K := K) isk
                go_wp2_with fail
                refine (HL _).mono ?_
                rintro _ v0 ⟨rfl, fv⟩
                have isc := isc.fr fv id
                have isk := isk.fr fv id
                have F := fr_nil F fv
                clear fv p0 p1 p2 p3 p4 p5 p6 p7 p8 k0 k1 k2 k3 k4 k5 k6
                obtain ⟨p0, p1, p2, p3, p4, p5, p6, p7, p8⟩ := conf_cells0 isc
                obtain ⟨k0, k1, k2, k3, k4, k5, k6⟩ := core_cells (K := K) isk
                go_wp2_with fail
                refine (K1 _ F).mono ?_
                rintro _ v1 ⟨rfl, fv⟩
                have isc := isc.fr fv id
                have isk := isk.fr fv id
                have F := fr_nil F fv
                clear fv p0 p1 p2 p3 p4 p5 p6 p7 p8 k0 k1 k2 k3 k4 k5 k6
                obtain ⟨p0, p1, p2, p3, p4, p5, p6, p7, p8⟩ := conf_cells0 isc
                obtain ⟨k0, k1, k2, k3, k4, k5, k6⟩ := core_cells (K := K) isk
                go_wp2_with fail
                refine (K2 (hrl.out (by first | rfl | trivial)) _ F).mono ?_
                rintro _ v2 ⟨rfl, fv⟩
                have isc := isc.fr fv id
                have isk := isk.fr fv id
                have F := fr_nil F fv
                clear fv p0 p1 p2 p3 p4 p5 p6 p7 p8 k0 k1 k2 k3 k4 k5 k6
                obtain ⟨p0, p1, p2, p3, p4, p5, p6, p7, p8⟩ := conf_cells0 isc
                obtain ⟨k0, k1, k2, k3, k4, k5, k6⟩ := core_cells (K := K) isk
                go_wp2_with fail
                refine (K3 _ F).mono ?_
                rintro _ v3 ⟨rfl, fv⟩
                have isc := isc.fr fv id
                have isk := isk.fr fv id
                have F := fr_nil F fv
                clear fv p0 p1 p2 p3 p4 p5 p6 p7 p8 k0 k1 k2 k3 k4 k5 k6
                obtain ⟨p0, p1, p2, p3, p4, p5, p6, p7, p8⟩ := conf_cells0 isc
                obtain ⟨k0, k1, k2, k3, k4, k5, k6⟩ := core_cells (K := K) isk
                go_wp2_with fail
                refine (K4 _ F).mono ?_
                rintro _ v4 ⟨rfl, fv⟩
                have isc := isc.fr fv id
                have isk := isk.fr fv id
                have F := fr_nil F fv
                clear fv p0 p1 p2 p3 p4 p5 p6 p7 p8 k0 k1 k2 k3 k4 k5 k6
                obtain ⟨p0, p1, p2, p3, p4, p5, p6, p7, p8⟩ := conf_cells0 isc
                obtain ⟨k0, k1, k2, k3, k4, k5, k6⟩ := core_cells (K := K) isk
                go_wp2_with fail
                refine (K5 _ F).mono ?_
                rintro _ v5 ⟨rfl, fv⟩
                have isc := isc.fr fv id
                have isk := isk.fr fv id
                have F := fr_nil F fv
                clear fv p0 p1 p2 p3 p4 p5 p6 p7 p8 k0 k1 k2 k3 k4 k5 k6
                obtain ⟨p0, p1, p2, p3, p4, p5, p6, p7, p8⟩ := conf_cells0 isc
                obtain ⟨k0, k1, k2, k3, k4, k5, k6⟩ := core_cells (K := K) isk
                go_wp2_with fail
                refine (K6 _ F).mono ?_
                rintro _ v6 ⟨rfl, fv⟩
                have isc := isc.fr fv id
                have isk := isk.fr fv id
                have F := fr_nil F fv
                clear fv p0 p1 p2 p3 p4 p5 p6 p7 p8 k0 k1 k2 k3 k4 k5 k6
                go_wp2_with fail
                go_ret
                exact ⟨rfl, F⟩
              · go_enter Tryz.func48, Tryz.ntmps48
                go_upto_region 1 with (fail)
                have F := HF0.out
                have isc := HIC.out
                have isk := HIK.out
                clear HF0 HIC HIK
                generalize ((w.alloc _).alloc _) = w0 at *
                obtain ⟨p0, p1, p2, p3, p4, p5, p6, p7, p8⟩ := conf_cells0 isc
                obtain ⟨k0, k1, k2, k3, k4, k5, k6⟩ := core_cells (K := K) isk
                go_wp2_with fail
                refine (HL _).mono ?_
                rintro _ v0 ⟨rfl, fv⟩
                have isc := isc.fr fv id
                have isk := isk.fr fv id
                have F := fr_nil F fv
                clear fv p0 p1 p2 p3 p4 p5 p6 p7 p8 k0 k1 k2 k3 k4 k5 k6
                obtain ⟨p0, p1, p2, p3, p4, p5, p6, p7, p8⟩ := conf_cells0 isc
                obtain ⟨k0, k1, k2, k3, k4, k5, k6⟩ := core_cells (K := K) isk
                go_wp2_with fail
                refine (K1 _ F).mono ?_
                rintro _ v1 ⟨rfl, fv⟩
                have isc := isc.fr fv id
                have isk := isk.fr fv id
                have F := fr_nil F fv
                clear fv p0 p1 p2 p3 p4 p5 p6 p7 p8 k0 k1 k2 k3 k4 k5 k6
                obtain ⟨p0, p1, p2, p3, p4, p5, p6, p7, p8⟩ := conf_cells0 isc
                obtain ⟨k0, k1, k2, k3, k4, k5, k6⟩ := core_cells (K := K) isk
                go_wp2_with fail
                refine (K2 (hrl.out (by first | rfl | trivial)) _ F).mono ?_
                rintro _ v2 ⟨rfl, fv⟩
                have isc := isc.fr fv id
                have isk := isk.fr fv id
                have F := fr_nil F fv
                clear fv p0 p1 p2 p3 p4 p5 p6 p7 p8 k0 k1 k2 k3 k4 k5 k6
                obtain ⟨p0, p1, p2, p3, p4, p5, p6, p7, p8⟩ := conf_cells0 isc
                obtain ⟨k0, k1, k2, k3, k4, k5, k6⟩ := core_cells (K := K) isk
                go_wp2_with fail
                refine (K3 _ F).mono ?_
                rintro _ v3 ⟨rfl, fv⟩
                have isc := isc.fr fv id
                have isk := isk.fr fv id
                have F := fr_nil F fv
                clear fv p0 p1 p2 p3 p4 p5 p6 p7 p8 k0 k1 k2 k3 k4 k5 k6
                obtain ⟨p0, p1, p2, p3, p4, p5, p6, p7, p8⟩ := conf_cells0 isc
                obtain ⟨k0, k1, k2, k3, k4, k5, k6⟩ := core_cells (K := K) isk
                go_wp2_with fail
                refine (K4 _ F).mono ?_
                rintro _ v4 ⟨rfl, fv⟩
                have isc := isc.fr fv id
                have isk := isk.fr fv id
                have F := fr_nil F fv
                clear fv p0 p1 p2 p3 p4 p5 p6 p7 p8 k0 k1 k2 k3 k4 k5 k6
                obtain ⟨p0, p1, p2, p3, p4, p5, p6, p7, p8⟩ := conf_cells0 isc
                obtain ⟨k0, k1, k2, k3, k4, k5, k6⟩ := core_cells (K := K) isk
                go_wp2_with fail
                refine (K5 _ F).mono ?_
                rintro _ v5 ⟨rfl, fv⟩
                have isc := isc.fr fv id
                have isk := isk.fr fv id
                have F := fr_nil F fv
                clear fv p0 p1 p2 p3 p4 p5 p6 p7 p8 k0 k1 k2 k3 k4 k5 k6
                obtain ⟨p0, p1, p2, p3, p4, p5, p6, p7, p8⟩ := conf_cells0 isc
                obtain ⟨k0, k1, k2, k3, k4, k5, k6⟩ := core_cells (K := K) isk
                go_wp2_with fail
                refine (K6 _ F).mono ?_
                rintro _ v6 ⟨rfl, fv⟩
                have isc := isc.fr fv id
                have isk := isk.fr fv id
                have F := fr_nil F fv
                clear fv p0 p1 p2 p3 p4 p5 p6 p7 p8 k0 k1 k2 k3 k4 k5 k6
                go_wp2_with fail
                go_ret
                exact ⟨rfl, F⟩

set_option maxRecDepth 100000 in
set_option maxHeartbeats 4000000 in
theorem fits_any (C : Cm) (K : Km) (w : World) (h : C.Ok w) (hK : K.Ok w) :
    Calls Tryz.prog 17 #[C.val, K.val] w fun e w' => e = .returned (.bool (fitsB C.cf K.kp)) ∧ Fr (fun _ => False) w w' := by
  have KC := fun W (f : Fr (fun _ => False) w W) => chk_any C W (h.fr f)
  have KS := fun W (f : Fr (fun _ => False) w W) => suits_any C K W (h.fr f) (hK.fr f)
  have hfit : fitsB C.cf K.kp = (decide (checkE C.cf = 0) && suitsB C.cf K.kp) := rfl
  rw [hfit]
  generalize suitsB C.cf K.kp = b at *
  generalize checkE C.cf = E at *
  have HF0 := Lib.hid (((Fr.refl (fun _ => False) w).alloc (.cells C.arr 30)).alloc (.cells K.arr 35))
  have HIC := Lib.hid ((Is.new w 30 C.arr).alloc (.cells K.arr 35))
  have HIK := Lib.hid (Is.new (w.alloc (.cells C.arr 30)) 35 K.arr)
  rw [show (w.alloc (.cells C.arr 30)).heap.size = w.heap.size + 1 by simp] at HIK
  clear hfit h hK
  unfold Cm.val Km.val Cm.arr Km.arr at *
  by_cases hE : E = 0
  · subst hE
    rw [decide_eq_true rfl, Bool.true_and]
    go_enter Tryz.func17, Tryz.ntmps17
    go_upto_region 1 with (fail)
    have F := HF0.out
    have isc := HIC.out
    have isk := HIK.out
    clear HF0 HIC HIK
    generalize ((w.alloc _).alloc _) = w0 at *
    obtain ⟨p0, p1, p2, p3, p4, p5, p6, p7, p8⟩ := conf_cells0 isc
    go_wp2_with fail
    refine (KC _ F).mono ?_
    rintro _ v1 ⟨rfl, fv⟩
    have isc := isc.fr fv id
    have isk := isk.fr fv id
    have F := fr_nil F fv
    clear fv p0 p1 p2 p3 p4 p5 p6 p7 p8
    obtain ⟨p0, p1, p2, p3, p4, p5, p6, p7, p8⟩ := conf_cells0 isc
    obtain ⟨k0, k1, k2, k3, k4, k5, k6⟩ := core_cells (K := K) isk
    go_wp2_with fail
    refine (KS _ F).mono ?_
    rintro _ v2 ⟨rfl, fv⟩
    have F := fr_nil F fv
    clear fv p0 p1 p2 p3 p4 p5 p6 p7 p8 k0 k1 k2 k3 k4 k5 k6
    go_wp2_with fail
    go_ret
    exact ⟨rfl, F⟩
  · rw [decide_eq_false hE, Bool.false_and]
    have e1 : (E == 0) = false := by simpa using hE
    have e2 : decide (E = 0) = false := by simpa using hE
    clear hE
    go_enter Tryz.func17, Tryz.ntmps17
    go_upto_region 1 with (fail)
    have F := HF0.out
    have isc := HIC.out
    clear HF0 HIC HIK
    generalize ((w.alloc _).alloc _) = w0 at *
    obtain ⟨p0, p1, p2, p3, p4, p5, p6, p7, p8⟩ := conf_cells0 isc
    go_wp2_with fail
    refine (KC _ F).mono ?_
    rintro _ v1 ⟨rfl, fv⟩
    have F := fr_nil F fv
    clear fv p0 p1 p2 p3 p4 p5 p6 p7 p8
    go_wp2_with fail
    go_ret
    exact ⟨rfl, F⟩
end Go.Proofs.YtginfnbdnkgjbaaGreat.Lk
/- The contract of the program's copied. -/
namespace Go.Proofs.YtginfnbdnkgjbaaGreat.Lk
open Go.RowKit

theorem seven {w : World} {b : Nat} {v0 v1 v2 v3 v4 v5 v6 : Value} {t : TypeId} (h : Is w b t #[v0, v1, v2, v3, v4, v5, v6]) : w.cell? ⟨b, 0, none⟩ = some v0 ∧ w.cell? ⟨b, 1, none⟩ = some v1 ∧ w.cell? ⟨b, 2, none⟩ = some v2 ∧ w.cell? ⟨b, 3, none⟩ = some v3 ∧ w.cell? ⟨b, 4, none⟩ = some v4 ∧ w.cell? ⟨b, 5, none⟩ = some v5 ∧ w.cell? ⟨b, 6, none⟩ = some v6 :=
  ⟨h.cell 0, h.cell 1, h.cell 2, h.cell 3, h.cell 4, h.cell 5, h.cell 6⟩
/-- a state comes back in memory of its own -/
def Back (w : World) (k : Kp) (e : Ending) (w' : World) : Prop := ∃ K : Km, e = .returned K.val ∧ K.kp = k ∧ K.Own w.heap.size w' ∧ Fr (fun _ => False) w w'
set_option maxRecDepth 100000 in
set_option maxHeartbeats 8000000 in
theorem copied_any (K : Km) (w : World) (h : K.Ok w) : Calls Tryz.prog 95 #[K.val] w (Back w K.kp) := by
  have hK := Lib.hid h
  have HF := Lib.hid (((Fr.refl (fun _ => False) w).alloc (.cells K.arr 35)).alloc (.cells #[.slice none 0 0, .slice none 0 0, .slice none 0 0, .slice none 0 0, .slice none 0 0, .slice none 0 0, .bool false] 35))
  have HIK := Lib.hid ((Is.new w 35 K.arr).alloc (.cells #[.slice none 0 0, .slice none 0 0, .slice none 0 0, .slice none 0 0, .slice none 0 0, .slice none 0 0, .bool false] 35))
  have HIR := Lib.hid (Is.new (w.alloc (.cells K.arr 35)) 35 #[.slice none 0 0, .slice none 0 0, .slice none 0 0, .slice none 0 0, .slice none 0 0, .slice none 0 0, .bool false])
  rw [show (w.alloc (.cells K.arr 35)).heap.size = w.heap.size + 1 by simp] at HIR
  clear h
  unfold Km.val Km.arr at *
  go_enter Tryz.func95, Tryz.ntmps95
  go_upto_region 1 with (fail)
  have hz1 : ((w.alloc (.cells #[.slice K.A1 K.own.length K.c1, .slice K.A2 K.rts.length K.c2, .slice K.A3 K.pts.length K.c3, .slice K.A4 K.crs.length K.c4, .slice K.A5 K.lns.length K.c5, .slice K.A6 K.rss.length K.c6, .bool K.dirty] 35)).alloc (.cells #[.slice none 0 0, .slice none 0 0, .slice none 0 0, .slice none 0 0, .slice none 0 0, .slice none 0 0, .bool false] 35)).heap.size = w.heap.size + 2 := by simp
  generalize ((w.alloc _).alloc _) = w1 at *
  have HS : Hid (∀ W, Fr (fun q => q = w.heap.size + 1) w1 W → W.cell? ⟨w.heap.size, 0, none⟩ = some (.slice K.A1 K.own.length K.c1) ∧ W.cell? ⟨w.heap.size, 1, none⟩ = some (.slice K.A2 K.rts.length K.c2) ∧ W.cell? ⟨w.heap.size, 2, none⟩ = some (.slice K.A3 K.pts.length K.c3) ∧ W.cell? ⟨w.heap.size, 3, none⟩ = some (.slice K.A4 K.crs.length K.c4) ∧ W.cell? ⟨w.heap.size, 4, none⟩ = some (.slice K.A5 K.lns.length K.c5) ∧ W.cell? ⟨w.heap.size, 5, none⟩ = some (.slice K.A6 K.rss.length K.c6) ∧ W.cell? ⟨w.heap.size, 6, none⟩ = some (.bool K.dirty)) := Lib.hid fun W fw => seven (HIK.out.fr fw (by omega))
  have HG0 := Lib.hid (Fr.refl (fun _ => False) w1).drew
  refine wp_region_held_drew (S := (fun Wx => Wx.cell? ⟨w.heap.size, 0, none⟩ = some (.slice K.A1 K.own.length K.c1) ∧ Wx.cell? ⟨w.heap.size, 1, none⟩ = some (.slice K.A2 K.rts.length K.c2) ∧ Wx.cell? ⟨w.heap.size, 2, none⟩ = some (.slice K.A3 K.pts.length K.c3) ∧ Wx.cell? ⟨w.heap.size, 3, none⟩ = some (.slice K.A4 K.crs.length K.c4) ∧ Wx.cell? ⟨w.heap.size, 4, none⟩ = some (.slice K.A5 K.lns.length K.c5) ∧ Wx.cell? ⟨w.heap.size, 5, none⟩ = some (.slice K.A6 K.rss.length K.c6) ∧ Wx.cell? ⟨w.heap.size, 6, none⟩ = some (.bool K.dirty))) (by kernel_rfl) (HS.out _ (Fr.refl _ w1).drew) (fun hHeld => ?_)
  refine wpAnyH_take (i := 0) (oi := { dst := some 3, op := _, type := _, pos := _, after := _, guard := _ }) (v := ?_) rfl (by kernel_rfl) (by kernel_rfl) (by kernel_rfl) (fun _ _ _ h => h) (Or.inl ⟨by rfl, ?_⟩) (by assumption) ?_
  rotate_left
  · intro Wx hSw
    try dsimp only at hSw
    go_simp
    try with_reducible rfl
  try simp only [Act.put, List.setIfInBounds_toArray, List.set_cons_zero, List.set_cons_succ]
  refine wpAnyH_take (i := 1) (oi := { dst := some 4, op := _, type := _, pos := _, after := _, guard := _ }) (v := ?_) rfl (by kernel_rfl) (by kernel_rfl) (by kernel_rfl) (fun _ _ _ h => h) (Or.inl ⟨by rfl, ?_⟩) (by assumption) ?_
  rotate_left
  · intro Wx hSw
    try dsimp only at hSw
    go_simp
    try with_reducible rfl
  try simp only [Act.put, List.setIfInBounds_toArray, List.set_cons_zero, List.set_cons_succ]
  refine wpAnyH_take (i := 3) (oi := { dst := some 6, op := _, type := _, pos := _, after := _, guard := _ }) (v := ?_) rfl (by kernel_rfl) (by kernel_rfl) (by kernel_rfl) (fun _ _ _ h => h) (Or.inl ⟨by rfl, ?_⟩) (by assumption) ?_
  rotate_left
  · intro Wx hSw
    try dsimp only at hSw
    go_simp
    try with_reducible rfl
  try simp only [Act.put, List.setIfInBounds_toArray, List.set_cons_zero, List.set_cons_succ]
  refine wpAnyH_take (i := 4) (oi := { dst := some 7, op := _, type := _, pos := _, after := _, guard := _ }) (v := ?_) rfl (by kernel_rfl) (by kernel_rfl) (by kernel_rfl) (fun _ _ _ h => h) (Or.inl ⟨by rfl, ?_⟩) (by assumption) ?_
  rotate_left
  · intro Wx hSw
    try dsimp only at hSw
    go_simp
    try with_reducible rfl
  try simp only [Act.put, List.setIfInBounds_toArray, List.set_cons_zero, List.set_cons_succ]
  refine wpAnyH_take (i := 6) (oi := { dst := some 9, op := _, type := _, pos := _, after := _, guard := _ }) (v := ?_) rfl (by kernel_rfl) (by kernel_rfl) (by kernel_rfl) (fun _ _ _ h => h) (Or.inl ⟨by rfl, ?_⟩) (by assumption) ?_
  rotate_left
  · intro Wx hSw
    try dsimp only at hSw
    go_simp
    try with_reducible rfl
  try simp only [Act.put, List.setIfInBounds_toArray, List.set_cons_zero, List.set_cons_succ]
  refine wpAnyH_take (i := 7) (oi := { dst := some 10, op := _, type := _, pos := _, after := _, guard := _ }) (v := ?_) rfl (by kernel_rfl) (by kernel_rfl) (by kernel_rfl) (fun _ _ _ h => h) (Or.inl ⟨by rfl, ?_⟩) (by assumption) ?_
  rotate_left
  · intro Wx hSw
    try dsimp only at hSw
    go_simp
    try with_reducible rfl
  try simp only [Act.put, List.setIfInBounds_toArray, List.set_cons_zero, List.set_cons_succ]
  refine wpAnyH_take (i := 9) (oi := { dst := some 12, op := _, type := _, pos := _, after := _, guard := _ }) (v := ?_) rfl (by kernel_rfl) (by kernel_rfl) (by kernel_rfl) (fun _ _ _ h => h) (Or.inl ⟨by rfl, ?_⟩) (by assumption) ?_
  rotate_left
  · intro Wx hSw
    try dsimp only at hSw
    go_simp
    try with_reducible rfl
  try simp only [Act.put, List.setIfInBounds_toArray, List.set_cons_zero, List.set_cons_succ]
  refine wpAnyH_take (i := 10) (oi := { dst := some 13, op := _, type := _, pos := _, after := _, guard := _ }) (v := ?_) rfl (by kernel_rfl) (by kernel_rfl) (by kernel_rfl) (fun _ _ _ h => h) (Or.inl ⟨by rfl, ?_⟩) (by assumption) ?_
  rotate_left
  · intro Wx hSw
    try dsimp only at hSw
    go_simp
    try with_reducible rfl
  try simp only [Act.put, List.setIfInBounds_toArray, List.set_cons_zero, List.set_cons_succ]
  refine wpAnyH_take (i := 12) (oi := { dst := some 15, op := _, type := _, pos := _, after := _, guard := _ }) (v := ?_) rfl (by kernel_rfl) (by kernel_rfl) (by kernel_rfl) (fun _ _ _ h => h) (Or.inl ⟨by rfl, ?_⟩) (by assumption) ?_
  rotate_left
  · intro Wx hSw
    try dsimp only at hSw
    go_simp
    try with_reducible rfl
  try simp only [Act.put, List.setIfInBounds_toArray, List.set_cons_zero, List.set_cons_succ]
  refine wpAnyH_take (i := 13) (oi := { dst := some 16, op := _, type := _, pos := _, after := _, guard := _ }) (v := ?_) rfl (by kernel_rfl) (by kernel_rfl) (by kernel_rfl) (fun _ _ _ h => h) (Or.inl ⟨by rfl, ?_⟩) (by assumption) ?_
  rotate_left
  · intro Wx hSw
    try dsimp only at hSw
    go_simp
    try with_reducible rfl
  try simp only [Act.put, List.setIfInBounds_toArray, List.set_cons_zero, List.set_cons_succ]
  refine wpAnyH_take (i := 15) (oi := { dst := some 18, op := _, type := _, pos := _, after := _, guard := _ }) (v := ?_) rfl (by kernel_rfl) (by kernel_rfl) (by kernel_rfl) (fun _ _ _ h => h) (Or.inl ⟨by rfl, ?_⟩) (by assumption) ?_
  rotate_left
  · intro Wx hSw
    try dsimp only at hSw
    go_simp
    try with_reducible rfl
  try simp only [Act.put, List.setIfInBounds_toArray, List.set_cons_zero, List.set_cons_succ]
  refine wpAnyH_take (i := 16) (oi := { dst := some 19, op := _, type := _, pos := _, after := _, guard := _ }) (v := ?_) rfl (by kernel_rfl) (by kernel_rfl) (by kernel_rfl) (fun _ _ _ h => h) (Or.inl ⟨by rfl, ?_⟩) (by assumption) ?_
  rotate_left
  · intro Wx hSw
    try dsimp only at hSw
    go_simp
    try with_reducible rfl
  try simp only [Act.put, List.setIfInBounds_toArray, List.set_cons_zero, List.set_cons_succ]
  refine wpAnyH_take (i := 18) (oi := { dst := some 21, op := _, type := _, pos := _, after := _, guard := _ }) (v := ?_) rfl (by kernel_rfl) (by kernel_rfl) (by kernel_rfl) (fun _ _ _ h => h) (Or.inl ⟨by rfl, ?_⟩) (by assumption) ?_
  rotate_left
  · intro Wx hSw
    try dsimp only at hSw
    go_simp
    try with_reducible rfl
  try simp only [Act.put, List.setIfInBounds_toArray, List.set_cons_zero, List.set_cons_succ]
  refine wpAnyH_take (i := 19) (oi := { dst := some 22, op := _, type := _, pos := _, after := _, guard := _ }) (v := ?_) rfl (by kernel_rfl) (by kernel_rfl) (by kernel_rfl) (fun _ _ _ h => h) (Or.inl ⟨by rfl, ?_⟩) (by assumption) ?_
  rotate_left
  · intro Wx hSw
    try dsimp only at hSw
    go_simp
    try with_reducible rfl
  try simp only [Act.put, List.setIfInBounds_toArray, List.set_cons_zero, List.set_cons_succ]
  refine wpAnyH_ready (rs := [2]) (by kernel_rfl) (by simp) (AllReadyH.cons rfl (fun KK hKK => ?_) AllReadyH.nil)
  go_simp
  refine (clone_any (c := K.c1) _ (hK.out.own.fr (fr_nil HF.out HG0.out) fun _ _ => id) (by have := hK.out.b1; omega)).mono ?_
  rintro e v1 ⟨B1, e1, rfl, o1, fv⟩
  have HO1 := Lib.hid o1
  have HB1 := Lib.hid HG0.out.size
  have HG1 := Lib.hid (fr_nil HG0.out fv)
  clear fv o1
  go_simp
  refine hKK.out _ _ (HS.out _ (HG1.out.mono fun _ _ h => h.elim)) (fun hHeld => ?_)
  clear hKK KK
  refine wpAnyH_ready (rs := [5]) (by kernel_rfl) (by simp) (AllReadyH.cons rfl (fun KK hKK => ?_) AllReadyH.nil)
  go_simp
  refine (cloners_any (c := K.c2) _ (hK.out.rts.fr (fr_nil HF.out HG1.out) fun _ _ => id) (by have := hK.out.b2; omega)).mono ?_
  rintro e v2 ⟨B2, e2, rfl, o2, fv⟩
  have HO2 := Lib.hid o2
  have HB2 := Lib.hid HG1.out.size
  have HO1 := Lib.hid (wide_fr HO1.out fv fun _ _ => id)
  have HG2 := Lib.hid (fr_nil HG1.out fv)
  clear fv o2
  go_simp
  refine hKK.out _ _ (HS.out _ (HG2.out.mono fun _ _ h => h.elim)) (fun hHeld => ?_)
  clear hKK KK
  refine wpAnyH_ready (rs := [8]) (by kernel_rfl) (by simp) (AllReadyH.cons rfl (fun KK hKK => ?_) AllReadyH.nil)
  go_simp
  refine (clonemo_any (c := K.c3) _ (hK.out.pts.fr (fr_nil HF.out HG2.out) fun _ _ => id) (by have := hK.out.b3; omega)).mono ?_
  rintro e v3 ⟨B3, e3, rfl, o3, fv⟩
  have HO3 := Lib.hid o3
  have HB3 := Lib.hid HG2.out.size
  have HO1 := Lib.hid (wide_fr HO1.out fv fun _ _ => id)
  have HO2 := Lib.hid (wide_fr HO2.out fv fun _ _ => id)
  have HG3 := Lib.hid (fr_nil HG2.out fv)
  clear fv o3
  go_simp
  refine hKK.out _ _ (HS.out _ (HG3.out.mono fun _ _ h => h.elim)) (fun hHeld => ?_)
  clear hKK KK
  refine wpAnyH_ready (rs := [11]) (by kernel_rfl) (by simp) (AllReadyH.cons rfl (fun KK hKK => ?_) AllReadyH.nil)
  go_simp
  refine (clonemo_any (c := K.c4) _ (hK.out.crs.fr (fr_nil HF.out HG3.out) fun _ _ => id) (by have := hK.out.b4; omega)).mono ?_
  rintro e v4 ⟨B4, e4, rfl, o4, fv⟩
  have HO4 := Lib.hid o4
  have HB4 := Lib.hid HG3.out.size
  have HD34 : Hid (∀ k, blk B3 = some k → blk B4 ≠ some k) := Lib.hid fun k e1 e2 => by
    have a := (World.ownsRow.lt HO3.out k (by rw [own_blk]; exact e1)).2
    have b := (World.ownsRow.lt o4 k (by rw [own_blk]; exact e2)).1
    omega
  have HO1 := Lib.hid (wide_fr HO1.out fv fun _ _ => id)
  have HO2 := Lib.hid (wide_fr HO2.out fv fun _ _ => id)
  have HO3 := Lib.hid (wide_fr HO3.out fv fun _ _ => id)
  have HG4 := Lib.hid (fr_nil HG3.out fv)
  clear fv o4
  go_simp
  refine hKK.out _ _ (HS.out _ (HG4.out.mono fun _ _ h => h.elim)) (fun hHeld => ?_)
  clear hKK KK
  refine wpAnyH_ready (rs := [14]) (by kernel_rfl) (by simp) (AllReadyH.cons rfl (fun KK hKK => ?_) AllReadyH.nil)
  go_simp
  refine (cloneln_any (c := K.c5) _ (hK.out.lns.fr (fr_nil HF.out HG4.out) fun _ _ => id) (by have := hK.out.b5; omega)).mono ?_
  rintro e v5 ⟨B5, e5, rfl, o5, fv⟩
  have HO5 := Lib.hid o5
  have HB5 := Lib.hid HG4.out.size
  have HO1 := Lib.hid (wide_fr HO1.out fv fun _ _ => id)
  have HO2 := Lib.hid (wide_fr HO2.out fv fun _ _ => id)
  have HO3 := Lib.hid (wide_fr HO3.out fv fun _ _ => id)
  have HO4 := Lib.hid (wide_fr HO4.out fv fun _ _ => id)
  have HG5 := Lib.hid (fr_nil HG4.out fv)
  clear fv o5
  go_simp
  refine hKK.out _ _ (HS.out _ (HG5.out.mono fun _ _ h => h.elim)) (fun hHeld => ?_)
  clear hKK KK
  refine wpAnyH_ready (rs := [17]) (by kernel_rfl) (by simp) (AllReadyH.cons rfl (fun KK hKK => ?_) AllReadyH.nil)
  go_simp
  refine (clone_any (c := K.c6) _ (hK.out.rss.fr (fr_nil HF.out HG5.out) fun _ _ => id) (by have := hK.out.b6; omega)).mono ?_
  rintro e v6 ⟨B6, e6, rfl, o6, fv⟩
  have HO6 := Lib.hid o6
  have HB6 := Lib.hid HG5.out.size
  have HD16 : Hid (∀ k, blk B1 = some k → blk B6 ≠ some k) := Lib.hid fun k e1 e2 => by
    have a := (World.ownsRow.lt HO1.out k (by rw [own_blk]; exact e1)).2
    have b := (World.ownsRow.lt o6 k (by rw [own_blk]; exact e2)).1
    omega
  have HO1 := Lib.hid (wide_fr HO1.out fv fun _ _ => id)
  have HO2 := Lib.hid (wide_fr HO2.out fv fun _ _ => id)
  have HO3 := Lib.hid (wide_fr HO3.out fv fun _ _ => id)
  have HO4 := Lib.hid (wide_fr HO4.out fv fun _ _ => id)
  have HO5 := Lib.hid (wide_fr HO5.out fv fun _ _ => id)
  have HG6 := Lib.hid (fr_nil HG5.out fv)
  clear fv o6
  go_simp
  refine hKK.out _ _ (HS.out _ (HG6.out.mono fun _ _ h => h.elim)) (fun hHeld => ?_)
  clear hKK KK
  refine wpAnyH_take (i := 20) (oi := { dst := some 23, op := _, type := _, pos := _, after := _, guard := _ }) (v := ?_) rfl (by kernel_rfl) (by kernel_rfl) (by kernel_rfl) (fun _ _ _ h => h) (Or.inl ⟨by rfl, ?_⟩) (by assumption) ?_
  rotate_left
  · intro Wx hSw
    try dsimp only at hSw
    go_simp
    try with_reducible rfl
  try simp only [Act.put, List.setIfInBounds_toArray, List.set_cons_zero, List.set_cons_succ]
  have isr := HIR.out.fr HG6.out id
  obtain ⟨m0, m1, m2, m3, m4, m5, m6⟩ := seven isr
  have z0 := isr.frozen 0
  have z1 := isr.frozen 1
  have z2 := isr.frozen 2
  have z3 := isr.frozen 3
  have z4 := isr.frozen 4
  have z5 := isr.frozen 5
  have z6 := isr.frozen 6
  refine wpAnyH_ready (rs := [21]) (by kernel_rfl) (by simp) (AllReadyH.cons rfl (fun KK hKK => ?_) AllReadyH.nil)
  go_simp
  refine hKK.out _ _ (HS.out _ ((((((((HG6.out.mono (S' := fun q => q = w.heap.size + 1) fun _ _ h => h.elim).setCell (p := ⟨w.heap.size + 1, 0, none⟩) (.inl rfl) (.slice B1 K.own.length e1)).setCell (p := ⟨w.heap.size + 1, 1, none⟩) (.inl rfl) (.slice B2 K.rts.length e2)).setCell (p := ⟨w.heap.size + 1, 2, none⟩) (.inl rfl) (.slice B3 K.pts.length e3)).setCell (p := ⟨w.heap.size + 1, 3, none⟩) (.inl rfl) (.slice B4 K.crs.length e4)).setCell (p := ⟨w.heap.size + 1, 4, none⟩) (.inl rfl) (.slice B5 K.lns.length e5)).setCell (p := ⟨w.heap.size + 1, 5, none⟩) (.inl rfl) (.slice B6 K.rss.length e6)).setCell (p := ⟨w.heap.size + 1, 6, none⟩) (.inl rfl) (.bool K.dirty))) (fun hHeld => ?_)
  clear hKK KK
  refine wpAnyH_done (by kernel_rfl) ?_ _

  have isR := (((((((isr.set 0 (.slice B1 K.own.length e1)).set 1 (.slice B2 K.rts.length e2)).set 2 (.slice B3 K.pts.length e3)).set 3 (.slice B4 K.crs.length e4)).set 4 (.slice B5 K.lns.length e5)).set 5 (.slice B6 K.rss.length e6)).set 6 (.bool K.dirty))
  have fR := ((((((((HG6.out.mono (S' := fun q => q = w.heap.size + 1) fun _ _ h => h.elim).setCell (p := ⟨w.heap.size + 1, 0, none⟩) (.inl rfl) (.slice B1 K.own.length e1)).setCell (p := ⟨w.heap.size + 1, 1, none⟩) (.inl rfl) (.slice B2 K.rts.length e2)).setCell (p := ⟨w.heap.size + 1, 2, none⟩) (.inl rfl) (.slice B3 K.pts.length e3)).setCell (p := ⟨w.heap.size + 1, 3, none⟩) (.inl rfl) (.slice B4 K.crs.length e4)).setCell (p := ⟨w.heap.size + 1, 4, none⟩) (.inl rfl) (.slice B5 K.lns.length e5)).setCell (p := ⟨w.heap.size + 1, 5, none⟩) (.inl rfl) (.slice B6 K.rss.length e6)).setCell (p := ⟨w.heap.size + 1, 6, none⟩) (.inl rfl) (.bool K.dirty))
  have f6 := ((((((((Fr.refl (fun q => q = w.heap.size + 1) v6).setCell (p := ⟨w.heap.size + 1, 0, none⟩) (.inl rfl) (.slice B1 K.own.length e1)).setCell (p := ⟨w.heap.size + 1, 1, none⟩) (.inl rfl) (.slice B2 K.rts.length e2)).setCell (p := ⟨w.heap.size + 1, 2, none⟩) (.inl rfl) (.slice B3 K.pts.length e3)).setCell (p := ⟨w.heap.size + 1, 3, none⟩) (.inl rfl) (.slice B4 K.crs.length e4)).setCell (p := ⟨w.heap.size + 1, 4, none⟩) (.inl rfl) (.slice B5 K.lns.length e5)).setCell (p := ⟨w.heap.size + 1, 5, none⟩) (.inl rfl) (.slice B6 K.rss.length e6)).setCell (p := ⟨w.heap.size + 1, 6, none⟩) (.inl rfl) (.bool K.dirty))
  simp only [List.setIfInBounds_toArray, List.set_cons_zero, List.set_cons_succ] at isR
  generalize hW : World.setCell _ _ _ = W at *
  have c0 := isR.cell 0
  have c1 := isR.cell 1
  have c2 := isR.cell 2
  have c3 := isR.cell 3
  have c4 := isR.cell 4
  have c5 := isR.cell 5
  have c6 := isR.cell 6
  have HOW : (⟨B1, e1, K.own, B2, e2, K.rts, B3, e3, K.pts, B4, e4, K.crs, B5, e5, K.lns, B6, e6, K.rss, K.dirty⟩ : Km).Own w.heap.size W := ⟨own_base (wide_fr HO1.out f6 fun k hk e => by have a := (World.ownsRow.lt HO1.out k hk).1; have b := HB1.out; (try simp only [World.size_drew] at a); (try simp only [World.size_drew] at b); omega) (by have b := HB1.out; (try simp only [World.size_drew] at b); (try simp only [World.size_drew]); omega), own_base (wide_fr HO2.out f6 fun k hk e => by have a := (World.ownsRow.lt HO2.out k hk).1; have b := HB2.out; (try simp only [World.size_drew] at a); (try simp only [World.size_drew] at b); omega) (by have b := HB2.out; (try simp only [World.size_drew] at b); (try simp only [World.size_drew]); omega), own_base (wide_fr HO3.out f6 fun k hk e => by have a := (World.ownsRow.lt HO3.out k hk).1; have b := HB3.out; (try simp only [World.size_drew] at a); (try simp only [World.size_drew] at b); omega) (by have b := HB3.out; (try simp only [World.size_drew] at b); (try simp only [World.size_drew]); omega), own_base (wide_fr HO4.out f6 fun k hk e => by have a := (World.ownsRow.lt HO4.out k hk).1; have b := HB4.out; (try simp only [World.size_drew] at a); (try simp only [World.size_drew] at b); omega) (by have b := HB4.out; (try simp only [World.size_drew] at b); (try simp only [World.size_drew]); omega), own_base (wide_fr HO5.out f6 fun k hk e => by have a := (World.ownsRow.lt HO5.out k hk).1; have b := HB5.out; (try simp only [World.size_drew] at a); (try simp only [World.size_drew] at b); omega) (by have b := HB5.out; (try simp only [World.size_drew] at b); (try simp only [World.size_drew]); omega), own_base (wide_fr HO6.out f6 fun k hk e => by have a := (World.ownsRow.lt HO6.out k hk).1; have b := HB6.out; (try simp only [World.size_drew] at a); (try simp only [World.size_drew] at b); omega) (by have b := HB6.out; (try simp only [World.size_drew] at b); (try simp only [World.size_drew]); omega), HD16.out, HD34.out⟩
  have FW : Fr (fun _ => False) w W := HF.out.trans fR fun k hk e => by omega
  go_wp2_with fail
  refine bodyPost_ret (v := (⟨B1, e1, K.own, B2, e2, K.rts, B3, e3, K.pts, B4, e4, K.crs, B5, e5, K.lns, B6, e6, K.rss, K.dirty⟩ : Km).val) ?_ rfl ⟨_, rfl, rfl, HOW, FW⟩
  unfold Km.val Km.arr
  simp [results, Tryz.results95, go_sem, c0, c1, c2, c3, c4, c5, c6]
end Go.Proofs.YtginfnbdnkgjbaaGreat.Lk
/- The copy of a state on which a call works, behind its address; what a store leaves of it. -/
namespace Go.Proofs.YtginfnbdnkgjbaaGreat.Lk
open Go.RowKit
/-! ### A thing of a state is stored whole -/
section
variable {B : Nat} {w : World} {K : Km}
theorem own_route (h : K.Own B w) {j g : Nat} (hj : j < K.rts.length) (hA : K.A2 = some ⟨g, 0, none⟩) (x : Rs) :
    ({ K with rts := K.rts.set j x } : Km).Own B ((((w.setCell ⟨g, j * 4, none⟩ (.int .i64 x.st)).setCell ⟨g, j * 4 + 1, none⟩ (.int .i64 x.since)).setCell ⟨g, j * 4 + 2, none⟩ (.int .i64 x.nxt)).setCell ⟨g, j * 4 + 3, none⟩ (.int .i64 x.mark)) := by
  obtain ⟨a, b, c, d⟩ := x
  obtain ⟨g0, e0, _, _, _, _, h0⟩ := h.set2 hj (k := 0) (by decide) a ⟨a, K.rts[j].since, K.rts[j].nxt, K.rts[j].mark⟩ rfl
  obtain ⟨g1, e1, _, _, _, _, h1⟩ := h0.set2 (j := j) (k := 1) (by simpa using hj) (by decide) b ⟨a, b, K.rts[j].nxt, K.rts[j].mark⟩ (by simp [cRs])
  obtain ⟨g2, e2, _, _, _, _, h2⟩ := h1.set2 (j := j) (k := 2) (by simpa using hj) (by decide) c ⟨a, b, c, K.rts[j].mark⟩ (by simp [cRs])
  obtain ⟨g3, e3, _, _, _, _, h3⟩ := h2.set2 (j := j) (k := 3) (by simpa using hj) (by decide) d ⟨a, b, c, d⟩ (by simp [cRs])
  have f0 : g0 = g := by rw [hA] at e0; injection e0 with e; injection e with e; exact e.symm
  have f1 : g1 = g := by rw [show ({ K with rts := K.rts.set j ⟨a, K.rts[j].since, K.rts[j].nxt, K.rts[j].mark⟩ } : Km).A2 = K.A2 from rfl, hA] at e1; injection e1 with e; injection e with e; exact e.symm
  have f2 : g2 = g := by have e2 : K.A2 = some ⟨g2, 0, none⟩ := e2; rw [hA] at e2; injection e2 with e; injection e with e; exact e.symm
  have f3 : g3 = g := by have e3 : K.A2 = some ⟨g3, 0, none⟩ := e3; rw [hA] at e3; injection e3 with e; injection e with e; exact e.symm
  subst f0 f1 f2 f3
  simpa only [List.set_set, Nat.add_zero] using h3
theorem own_point (h : K.Own B w) {j g : Nat} (hj : j < K.pts.length) (hA : K.A3 = some ⟨g, 0, none⟩) (x : Mo) :
    ({ K with pts := K.pts.set j x } : Km).Own B ((w.setCell ⟨g, j * 2, none⟩ (.int .i64 x.cmd)).setCell ⟨g, j * 2 + 1, none⟩ (.int .i64 x.oth)) := by
  obtain ⟨a, b⟩ := x
  obtain ⟨g0, e0, _, _, _, _, h0⟩ := h.set3 hj (k := 0) (by decide) a ⟨a, K.pts[j].oth⟩ rfl
  obtain ⟨g1, e1, _, _, _, _, h1⟩ := h0.set3 (j := j) (k := 1) (by simpa using hj) (by decide) b ⟨a, b⟩ (by simp [cMo])
  have f0 : g0 = g := by rw [hA] at e0; injection e0 with e; injection e with e; exact e.symm
  have f1 : g1 = g := by have e1 : K.A3 = some ⟨g1, 0, none⟩ := e1; rw [hA] at e1; injection e1 with e; injection e with e; exact e.symm
  subst f0 f1
  simpa only [List.set_set, Nat.add_zero] using h1
theorem own_cross (h : K.Own B w) {j g : Nat} (hj : j < K.crs.length) (hA : K.A4 = some ⟨g, 0, none⟩) (x : Mo) :
    ({ K with crs := K.crs.set j x } : Km).Own B ((w.setCell ⟨g, j * 2, none⟩ (.int .i64 x.cmd)).setCell ⟨g, j * 2 + 1, none⟩ (.int .i64 x.oth)) := by
  obtain ⟨a, b⟩ := x
  obtain ⟨g0, e0, _, _, _, _, h0⟩ := h.set4 hj (k := 0) (by decide) a ⟨a, K.crs[j].oth⟩ rfl
  obtain ⟨g1, e1, _, _, _, _, h1⟩ := h0.set4 (j := j) (k := 1) (by simpa using hj) (by decide) b ⟨a, b⟩ (by simp [cMo])
  have f0 : g0 = g := by rw [hA] at e0; injection e0 with e; injection e with e; exact e.symm
  have f1 : g1 = g := by have e1 : K.A4 = some ⟨g1, 0, none⟩ := e1; rw [hA] at e1; injection e1 with e; injection e with e; exact e.symm
  subst f0 f1
  simpa only [List.set_set, Nat.add_zero] using h1
end
/-- the sixteen cells of a copy: the state, and the configuration that it fits -/
def stArr (K : Km) (C : Cm) : Array Value := #[.slice K.A1 K.own.length K.c1, .slice K.A2 K.rts.length K.c2, .slice K.A3 K.pts.length K.c3, .slice K.A4 K.crs.length K.c4, .slice K.A5 K.lns.length K.c5, .slice K.A6 K.rss.length K.c6, .bool K.dirty,
  .slice C.A1 C.l.length C.c1, .slice C.A2 C.js.length C.c2, .slice C.A3 C.sg.length C.c3, .slice C.A4 C.cr.length C.c4, .slice C.A5 C.rs.length C.c5, .int .i64 C.tm.age, .int .i64 C.tm.brake, .int .i64 C.tm.hold, .int .i64 C.tm.budget]
/-- the copy behind its address, all made since w0 -/
structure St (w0 w : World) (sb : Nat) (K : Km) (C : Cm) : Prop where
  is : Is w sb 183 (stArr K C)
  own : K.Own w0.heap.size w
  f : Fr (fun _ => False) w0 w
  hb : w0.heap.size ≤ sb
namespace St
variable {w0 w : World} {sb : Nat} {K : Km} {C : Cm}
theorem no (h : St w0 w sb K C) : ¬ K.at sb := h.own.ne_is h.is (by decide) (by decide) (by decide) (by decide)
theorem fr {w1 : World} (h : St w0 w sb K C) (f : Fr (fun _ => False) w w1) : St w0 w1 sb K C := ⟨h.is.fr f id, h.own.fr f fun _ _ => id, h.f.trans f fun _ _ e => e, h.hb⟩
theorem same {w1 : World} (h : St w0 w sb K C) (e : w = w1) : St w0 w1 sb K C := e ▸ h
theorem drew (h : St w0 w sb K C) : St w0 w.drew sb K C := h.fr (Fr.refl _ _).drew
theorem drewN (h : St w0 w sb K C) (n : Nat) : St w0 (w.drewN n) sb K C := h.fr ((Fr.refl _ _).drewN n)
theorem route (h : St w0 w sb K C) {j g : Nat} (hj : j < K.rts.length) (hA : K.A2 = some ⟨g, 0, none⟩) (x : Rs) :
    St w0 ((((w.setCell ⟨g, j * 4, none⟩ (.int .i64 x.st)).setCell ⟨g, j * 4 + 1, none⟩ (.int .i64 x.since)).setCell ⟨g, j * 4 + 2, none⟩ (.int .i64 x.nxt)).setCell ⟨g, j * 4 + 3, none⟩ (.int .i64 x.mark)) sb { K with rts := K.rts.set j x } C := by
  have hk : K.at g := .inr (.inl (by rw [hA]; rfl))
  have hg := (h.own.lt g hk).1
  have hne : ¬ sb = g := fun e => h.no (e ▸ hk)
  refine ⟨?_, own_route h.own hj hA x, ((((h.f.setCell (p := ⟨g, j * 4, none⟩) (.inr hg) _).setCell (p := ⟨g, j * 4 + 1, none⟩) (.inr hg) _).setCell (p := ⟨g, j * 4 + 2, none⟩) (.inr hg) _).setCell (p := ⟨g, j * 4 + 3, none⟩) (.inr hg) _), h.hb⟩
  have := (((h.is.far (p := ⟨g, j * 4, none⟩) hne (.int .i64 x.st)).far (p := ⟨g, j * 4 + 1, none⟩) hne (.int .i64 x.since)).far (p := ⟨g, j * 4 + 2, none⟩) hne (.int .i64 x.nxt)).far (p := ⟨g, j * 4 + 3, none⟩) hne (.int .i64 x.mark)
  unfold stArr at this ⊢
  simpa only [List.length_set] using this
theorem point (h : St w0 w sb K C) {j g : Nat} (hj : j < K.pts.length) (hA : K.A3 = some ⟨g, 0, none⟩) (x : Mo) :
    St w0 ((w.setCell ⟨g, j * 2, none⟩ (.int .i64 x.cmd)).setCell ⟨g, j * 2 + 1, none⟩ (.int .i64 x.oth)) sb { K with pts := K.pts.set j x } C := by
  have hk : K.at g := .inr (.inr (.inl (by rw [hA]; rfl)))
  have hg := (h.own.lt g hk).1
  have hne : ¬ sb = g := fun e => h.no (e ▸ hk)
  refine ⟨?_, own_point h.own hj hA x, ((h.f.setCell (p := ⟨g, j * 2, none⟩) (.inr hg) _).setCell (p := ⟨g, j * 2 + 1, none⟩) (.inr hg) _), h.hb⟩
  have := (h.is.far (p := ⟨g, j * 2, none⟩) hne (.int .i64 x.cmd)).far (p := ⟨g, j * 2 + 1, none⟩) hne (.int .i64 x.oth)
  unfold stArr at this ⊢
  simpa only [List.length_set] using this
theorem cross (h : St w0 w sb K C) {j g : Nat} (hj : j < K.crs.length) (hA : K.A4 = some ⟨g, 0, none⟩) (x : Mo) :
    St w0 ((w.setCell ⟨g, j * 2, none⟩ (.int .i64 x.cmd)).setCell ⟨g, j * 2 + 1, none⟩ (.int .i64 x.oth)) sb { K with crs := K.crs.set j x } C := by
  have hk : K.at g := .inr (.inr (.inr (.inl (by rw [hA]; rfl))))
  have hg := (h.own.lt g hk).1
  have hne : ¬ sb = g := fun e => h.no (e ▸ hk)
  refine ⟨?_, own_cross h.own hj hA x, ((h.f.setCell (p := ⟨g, j * 2, none⟩) (.inr hg) _).setCell (p := ⟨g, j * 2 + 1, none⟩) (.inr hg) _), h.hb⟩
  have := (h.is.far (p := ⟨g, j * 2, none⟩) hne (.int .i64 x.cmd)).far (p := ⟨g, j * 2 + 1, none⟩) hne (.int .i64 x.oth)
  unfold stArr at this ⊢
  simpa only [List.length_set] using this
theorem owner (h : St w0 w sb K C) {j g : Nat} (hj : j < K.own.length) (hA : K.A1 = some ⟨g, 0, none⟩) (x : Int) : St w0 (w.setCell ⟨g, j, none⟩ (.int .i64 x)) sb { K with own := K.own.set j x } C := by
  have hk : K.at g := .inl (by rw [hA]; rfl)
  have hg := (h.own.lt g hk).1
  have hne : ¬ sb = g := fun e => h.no (e ▸ hk)
  obtain ⟨g0, e0, _, _, _, _, h0⟩ := h.own.set1 hj x
  have f0 : g0 = g := by rw [hA] at e0; injection e0 with e; injection e with e; exact e.symm
  subst f0
  refine ⟨?_, h0, h.f.setCell (p := ⟨g0, j, none⟩) (.inr hg) _, h.hb⟩
  have := h.is.far (p := ⟨g0, j, none⟩) hne (.int .i64 x)
  unfold stArr at this ⊢
  simpa only [List.length_set] using this
theorem due (h : St w0 w sb K C) {j g : Nat} (hj : j < K.rss.length) (hA : K.A6 = some ⟨g, 0, none⟩) (x : Int) : St w0 (w.setCell ⟨g, j, none⟩ (.int .i64 x)) sb { K with rss := K.rss.set j x } C := by
  have hk : K.at g := .inr (.inr (.inr (.inr (.inr (by rw [hA]; rfl)))))
  have hg := (h.own.lt g hk).1
  have hne : ¬ sb = g := fun e => h.no (e ▸ hk)
  obtain ⟨g0, e0, _, _, _, _, h0⟩ := h.own.set6 hj x
  have f0 : g0 = g := by rw [hA] at e0; injection e0 with e; injection e with e; exact e.symm
  subst f0
  refine ⟨?_, h0, h.f.setCell (p := ⟨g0, j, none⟩) (.inr hg) _, h.hb⟩
  have := h.is.far (p := ⟨g0, j, none⟩) hne (.int .i64 x)
  unfold stArr at this ⊢
  simpa only [List.length_set] using this
theorem asked (h : St w0 w sb K C) {j g : Nat} (hj : j < K.lns.length) (hA : K.A5 = some ⟨g, 0, none⟩) (x : Int) : St w0 (w.setCell ⟨g, j * 8, none⟩ (.int .i64 x)) sb { K with lns := K.lns.set j { K.lns[j] with ask := x } } C := by
  have hk : K.at g := .inr (.inr (.inr (.inr (.inl (by rw [hA]; rfl)))))
  have hg := (h.own.lt g hk).1
  have hne : ¬ sb = g := fun e => h.no (e ▸ hk)
  obtain ⟨g0, e0, _, _, _, _, h0⟩ := h.own.set5 hj (k := 0) (by decide) x { K.lns[j] with ask := x } rfl
  have f0 : g0 = g := by rw [hA] at e0; injection e0 with e; injection e with e; exact e.symm
  subst f0
  rw [Nat.add_zero] at h0
  refine ⟨?_, h0, h.f.setCell (p := ⟨g0, j * 8, none⟩) (.inr hg) _, h.hb⟩
  have := h.is.far (p := ⟨g0, j * 8, none⟩) hne (.int .i64 x)
  unfold stArr at this ⊢
  simpa only [List.length_set] using this
theorem dirt (h : St w0 w sb K C) (b : Bool) : St w0 (w.setCell ⟨sb, 6, none⟩ (.bool b)) sb { K with dirty := b } C :=
by
  have o := h.own.fr ((Fr.refl (fun k => k = sb) w).setCell (p := ⟨sb, 6, none⟩) (.inl rfl) (.bool b)) (fun k hk e => h.no (e ▸ hk))
  exact ⟨h.is.set 6 (.bool b), ⟨o.own, o.rts, o.pts, o.crs, o.lns, o.rss, o.d16, o.d34⟩, h.f.setCell (p := ⟨sb, 6, none⟩) (.inr h.hb) _, h.hb⟩
/-- where the copy's lists lie, and their cells -/
theorem at2 (h : St w0 w sb K C) {j : Nat} (hj : j < K.rts.length) : ∃ g, K.A2 = some ⟨g, 0, none⟩ ∧ w.cell? ⟨g, j * 4, none⟩ = some (.int .i64 K.rts[j].st) ∧ w.cell? ⟨g, j * 4 + 1, none⟩ = some (.int .i64 K.rts[j].since) ∧ w.cell? ⟨g, j * 4 + 2, none⟩ = some (.int .i64 K.rts[j].nxt) ∧ w.cell? ⟨g, j * 4 + 3, none⟩ = some (.int .i64 K.rts[j].mark) ∧
    w.frozen? ⟨g, j * 4, none⟩ = false ∧ w.frozen? ⟨g, j * 4 + 1, none⟩ = false ∧ w.frozen? ⟨g, j * 4 + 2, none⟩ = false ∧ w.frozen? ⟨g, j * 4 + 3, none⟩ = false := by
  obtain ⟨g, hA, _, _⟩ := own_some h.own.rts (by omega)
  have ho := h.own.rts
  obtain ⟨g', o, e, c0, c1, c2, c3⟩ := rd_rs (wide_rd ho) hj
  rw [hA] at ho e
  injection e with e
  injection e with e1 e2
  subst e1 e2
  simp only [Nat.zero_add] at c0 c1 c2 c3
  exact ⟨g, hA, c0, c1, c2, c3, ho.frozenAt _, ho.frozenAt _, ho.frozenAt _, ho.frozenAt _⟩
end St
end Go.Proofs.YtginfnbdnkgjbaaGreat.Lk

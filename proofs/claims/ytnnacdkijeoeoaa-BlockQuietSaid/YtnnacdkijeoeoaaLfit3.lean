/- The contracts of the program's suits, Fits. -/
import Derived.Test.YtnnacdkijeoeoaaLfit2
import Derived.Test.YtnnacdkijeoeoaaKz
namespace Go.Proofs.Ytnnacdkijeoeoaa.Lk
open Go.RowKit

theorem core_cells {w : World} {b : Nat} {K : Km} (h : Is w b 35 K.arr) : w.cell? ⟨b, 0, none⟩ = some (.slice K.A1 K.own.length K.c1) ∧ w.cell? ⟨b, 1, none⟩ = some (.slice K.A2 K.rts.length K.c2) ∧ w.cell? ⟨b, 2, none⟩ = some (.slice K.A3 K.pts.length K.c3) ∧ w.cell? ⟨b, 3, none⟩ = some (.slice K.A4 K.crs.length K.c4) ∧ w.cell? ⟨b, 4, none⟩ = some (.slice K.A5 K.lns.length K.c5) ∧ w.cell? ⟨b, 5, none⟩ = some (.slice K.A6 K.rss.length K.c6) ∧ w.cell? ⟨b, 6, none⟩ = some (.bool K.dirty) :=
  ⟨h.cell 0, h.cell 1, h.cell 2, h.cell 3, h.cell 4, h.cell 5, h.cell 6⟩
set_option maxRecDepth 100000 in
set_option maxHeartbeats 8000000 in
theorem suits_any (C : Cm) (K : Km) (w : World) (h : C.Ok w) (hK : K.Ok w) :
    Calls Try.prog 24 #[C.val, K.val] w fun e w' => e = .returned (.bool (suitsB C.cf K.kp)) ∧ Fr (fun _ => False) w w' := by
  have hb5 := h.b5
  have k1 := hK.b1
  have k6 := hK.b6
  have HL := fun W => lengths_raw (A1 := C.A1) (A2 := C.A2) (A3 := C.A3) (A4 := C.A4) (A5 := C.A5) (B1 := K.A1) (B2 := K.A2) (B3 := K.A3) (B4 := K.A4) (B5 := K.A5) (B6 := K.A6) (s := C.l.length) (j := C.js.length) (g := C.sg.length) (x := C.cr.length) (r := C.rs.length) (c1 := C.c1) (c2 := C.c2) (c3 := C.c3) (c4 := C.c4) (c5 := C.c5) (n1 := K.own.length) (n2 := K.rts.length) (n3 := K.pts.length) (n4 := K.crs.length) (n5 := K.lns.length) (n6 := K.rss.length) (d1 := K.c1) (d2 := K.c2) (d3 := K.c3) (d4 := K.c4) (d5 := K.c5) (d6 := K.c6) (t0 := C.tm.age) (t1 := C.tm.brake) (t2 := C.tm.hold) (t3 := C.tm.budget) (dy := K.dirty) W
  have hlens : lensB C.cf K.kp = (decide (K.own.length = C.l.length) && (decide (K.rts.length = C.rs.length) && (decide (K.pts.length = C.l.length) && (decide (K.crs.length = C.cr.length) && (decide (K.lns.length = 4) && decide (K.rss.length = C.l.length)))))) := by
    unfold lensB Cm.cf Km.kp
    dsimp only
    rw [List.length_map]
  rw [← hlens] at HL
  have K1 := fun W (f : Fr (fun _ => False) w W) => within_any (c := K.c1) (-2) C.rs.length K.own W (hK.own.fr f fun _ _ => id) (by omega)
  have K2 := fun (hr : K.rts.length = C.rs.length) W (f : Fr (fun _ => False) w W) => routes_any (c := K.c2) (c' := C.c5) C.rs K.rts W (hK.rts.fr f fun _ _ => id) (h.rts.fr f fun _ _ => id) hK.b2 hr
  have K3 := fun W (f : Fr (fun _ => False) w W) => movers_any (c := K.c3) K.pts W (hK.pts.fr f fun _ _ => id) hK.b3
  have K4 := fun W (f : Fr (fun _ => False) w W) => movers_any (c := K.c4) K.crs W (hK.crs.fr f fun _ _ => id) hK.b4
  have K5 := fun W (f : Fr (fun _ => False) w W) => lines_any (c := K.c5) K.lns W (hK.lns.fr f fun _ _ => id) hK.b5
  have K6 := fun W (f : Fr (fun _ => False) w W) => within_any (c := K.c6) 0 4294967296 K.rss W (hK.rss.fr f fun _ _ => id) (by omega)
  have hS : suitsB C.cf K.kp = (lensB C.cf K.kp && (K.own.all (inB (-2) C.rs.length) && (rtsB (C.rs.map Ro.rt) K.rts && (K.pts.all moB && (K.crs.all moB && (K.lns.all lnB && K.rss.all (inB 0 4294967296))))))) := by
    unfold suitsB Cm.cf Km.kp
    dsimp only
    rw [List.length_map]
  rw [hS]
  have hrl0 : lensB C.cf K.kp = true → K.rts.length = C.rs.length := by
    rw [hlens]
    simp only [Bool.and_eq_true, decide_eq_true_eq]
    exact fun h => h.2.1
  have hrl := Lib.hid hrl0
  clear hrl0
  generalize lensB C.cf K.kp = b0 at *
  generalize K.own.all (inB (-2) C.rs.length) = b1 at *
  generalize rtsB (C.rs.map Ro.rt) K.rts = b2 at *
  generalize K.pts.all moB = b3 at *
  generalize K.crs.all moB = b4 at *
  generalize K.lns.all lnB = b5 at *
  generalize K.rss.all (inB 0 4294967296) = b6 at *
  have HF0 := Lib.hid (((Fr.refl (fun _ => False) w).alloc (.cells C.arr 30)).alloc (.cells K.arr 35))
  have HIC := Lib.hid ((Is.new w 30 C.arr).alloc (.cells K.arr 35))
  have HIK := Lib.hid (Is.new (w.alloc (.cells C.arr 30)) 35 K.arr)
  rw [show (w.alloc (.cells C.arr 30)).heap.size = w.heap.size + 1 by simp] at HIK
  clear hlens hS h hK hb5 k1 k6
  unfold Cm.val Km.val Cm.arr Km.arr at *
  cases b0
  · go_enter Try.func24, Try.ntmps24
    go_upto_region 1 with (fail)
    have F := HF0.out
    have isc := HIC.out
    have isk := HIK.out
    clear HF0 HIC HIK
    generalize ((w.alloc _).alloc _) = w0 at *
    obtain ⟨p0, p1, p2, p3, p4, p5, p6, p7, p8⟩ := conf_cells0 isc
    obtain ⟨k0, k1, k2, k3, k4, k5, k6⟩ := core_cells (K := K) isk
    go_wp2_with fail
    refine (HL _).mono ?_
    rintro _ v0 ⟨rfl, fv⟩
    have isc := isc.fr fv id
    have isk := isk.fr fv id
    have F := fr_nil F fv
    clear fv p0 p1 p2 p3 p4 p5 p6 p7 p8 k0 k1 k2 k3 k4 k5 k6
    go_wp2_with fail
    go_ret
    exact ⟨rfl, F⟩
  · skip
    cases b1
    · go_enter Try.func24, Try.ntmps24
      go_upto_region 1 with (fail)
      have F := HF0.out
      have isc := HIC.out
      have isk := HIK.out
      clear HF0 HIC HIK
      generalize ((w.alloc _).alloc _) = w0 at *
      obtain ⟨p0, p1, p2, p3, p4, p5, p6, p7, p8⟩ := conf_cells0 isc
      obtain ⟨k0, k1, k2, k3, k4, k5, k6⟩ := core_cells (K := K) isk
      go_wp2_with fail
      refine (HL _).mono ?_
      rintro _ v0 ⟨rfl, fv⟩
      have isc := isc.fr fv id
      have isk := isk.fr fv id
      have F := fr_nil F fv
      clear fv p0 p1 p2 p3 p4 p5 p6 p7 p8 k0 k1 k2 k3 k4 k5 k6
      obtain ⟨p0, p1, p2, p3, p4, p5, p6, p7, p8⟩ := conf_cells0 isc
      obtain ⟨k0, k1, k2, k3, k4, k5, k6⟩ := core_cells (K := K) isk
      go_wp2_with fail
      refine (K1 _ F).mono ?_
      rintro _ v1 ⟨rfl, fv⟩
      have isc := isc.fr fv id
      have isk := isk.fr fv id
      have F := fr_nil F fv
      clear fv p0 p1 p2 p3 p4 p5 p6 p7 p8 k0 k1 k2 k3 k4 k5 k6
      go_wp2_with fail
      go_ret
      exact ⟨rfl, F⟩
    · skip
      cases b2
      · go_enter Try.func24, Try.ntmps24
        go_upto_region 1 with (fail)
        have F := HF0.out
        have isc := HIC.out
        have isk := HIK.out
        clear HF0 HIC HIK
        generalize ((w.alloc _).alloc _) = w0 at *
        obtain ⟨p0, p1, p2, p3, p4, p5, p6, p7, p8⟩ := conf_cells0 isc
        obtain ⟨k0, k1, k2, k3, k4, k5, k6⟩ := core_cells (K := K) isk
        go_wp2_with fail
        refine (HL _).mono ?_
        rintro _ v0 ⟨rfl, fv⟩
        have isc := isc.fr fv id
        have isk := isk.fr fv id
        have F := fr_nil F fv
        clear fv p0 p1 p2 p3 p4 p5 p6 p7 p8 k0 k1 k2 k3 k4 k5 k6
        obtain ⟨p0, p1, p2, p3, p4, p5, p6, p7, p8⟩ := conf_cells0 isc
        obtain ⟨k0, k1, k2, k3, k4, k5, k6⟩ := core_cells (K := K) isk
        go_wp2_with fail
        refine (K1 _ F).mono ?_
        rintro _ v1 ⟨rfl, fv⟩
        have isc := isc.fr fv id
        have isk := isk.fr fv id
        have F := fr_nil F fv
        clear fv p0 p1 p2 p3 p4 p5 p6 p7 p8 k0 k1 k2 k3 k4 k5 k6
        obtain ⟨p0, p1, p2, p3, p4, p5, p6, p7, p8⟩ := conf_cells0 isc
        obtain ⟨k0, k1, k2, k3, k4, k5, k6⟩ := core_cells (K := K) isk
        go_wp2_with fail
        refine (K2 (hrl.out (by first | rfl | trivial)) _ F).mono ?_
        rintro _ v2 ⟨rfl, fv⟩
        have isc := isc.fr fv id
        have isk := isk.fr fv id
        have F := fr_nil F fv
        clear fv p0 p1 p2 p3 p4 p5 p6 p7 p8 k0 k1 k2 k3 k4 k5 k6
        go_wp2_with fail
        go_ret
        exact ⟨rfl, F⟩
      · skip
        cases b3
        · go_enter Try.func24, Try.ntmps24
          go_upto_region 1 with (fail)
          have F := HF0.out
          have isc := HIC.out
          have isk := HIK.out
          clear HF0 HIC HIK
          generalize ((w.alloc _).alloc _) = w0 at *
          obtain ⟨p0, p1, p2, p3, p4, p5, p6, p7, p8⟩ := conf_cells0 isc
          obtain ⟨k0, k1, k2, k3, k4, k5, k6⟩ := core_cells (K := K) isk
          go_wp2_with fail
          refine (HL _).mono ?_
          rintro _ v0 ⟨rfl, fv⟩
          have isc := isc.fr fv id
          have isk := isk.fr fv id
          have F := fr_nil F fv
          clear fv p0 p1 p2 p3 p4 p5 p6 p7 p8 k0 k1 k2 k3 k4 k5 k6
          obtain ⟨p0, p1, p2, p3, p4, p5, p6, p7, p8⟩ := conf_cells0 isc
          obtain ⟨k0, k1, k2, k3, k4, k5, k6⟩ := core_cells (K := K) isk
          go_wp2_with fail
          refine (K1 _ F).mono ?_
          rintro _ v1 ⟨rfl, fv⟩
          have isc := isc.fr fv id
          have isk := isk.fr fv id
          have F := fr_nil F fv
          clear fv p0 p1 p2 p3 p4 p5 p6 p7 p8 k0 k1 k2 k3 k4 k5 k6
          obtain ⟨p0, p1, p2, p3, p4, p5, p6, p7, p8⟩ := conf_cells0 isc
          obtain ⟨k0, k1, k2, k3, k4, k5, k6⟩ := core_cells (K := K) isk
          go_wp2_with fail
          refine (K2 (hrl.out (by first | rfl | trivial)) _ F).mono ?_
          rintro _ v2 ⟨rfl, fv⟩
          have isc := isc.fr fv id
          have isk := isk.fr fv id
          have F := fr_nil F fv
          clear fv p0 p1 p2 p3 p4 p5 p6 p7 p8 k0 k1 k2 k3 k4 k5 k6
          obtain ⟨p0, p1, p2, p3, p4, p5, p6, p7, p8⟩ := conf_cells0 isc
          obtain ⟨k0, k1, k2, k3, k4, k5, k6⟩ := core_cells (K := K) isk
          go_wp2_with fail
          refine (K3 _ F).mono ?_
          rintro _ v3 ⟨rfl, fv⟩
          have isc := isc.fr fv id
          have isk := isk.fr fv id
          have F := fr_nil F fv
          clear fv p0 p1 p2 p3 p4 p5 p6 p7 p8 k0 k1 k2 k3 k4 k5 k6
          go_wp2_with fail
          go_ret
          exact ⟨rfl, F⟩
        · skip
          cases b4
          · go_enter Try.func24, Try.ntmps24
            go_upto_region 1 with (fail)
            have F := HF0.out
            have isc := HIC.out
            have isk := HIK.out
            clear HF0 HIC HIK
            generalize ((w.alloc _).alloc _) = w0 at *
            obtain ⟨p0, p1, p2, p3, p4, p5, p6, p7, p8⟩ := conf_cells0 isc
            obtain ⟨k0, k1, k2, k3, k4, k5, k6⟩ := core_cells (K := K) isk
            go_wp2_with fail
            refine (HL _).mono ?_
            rintro _ v0 ⟨rfl, fv⟩
            have isc := isc.fr fv id
            have isk := isk.fr fv id
            have F := fr_nil F fv
            clear fv p0 p1 p2 p3 p4 p5 p6 p7 p8 k0 k1 k2 k3 k4 k5 k6
            obtain ⟨p0, p1, p2, p3, p4, p5, p6, p7, p8⟩ := conf_cells0 isc
            obtain ⟨k0, k1, k2, k3, k4, k5, k6⟩ := core_cells (K := K) isk
            go_wp2_with fail
            refine (K1 _ F).mono ?_
            rintro _ v1 ⟨rfl, fv⟩
            have isc := isc.fr fv id
            have isk := isk.fr fv id
            have F := fr_nil F fv
            clear fv p0 p1 p2 p3 p4 p5 p6 p7 p8 k0 k1 k2 k3 k4 k5 k6
            obtain ⟨p0, p1, p2, p3, p4, p5, p6, p7, p8⟩ := conf_cells0 isc
            obtain ⟨k0, k1, k2, k3, k4, k5, k6⟩ := core_cells (K := K) isk
            go_wp2_with fail
            refine (K2 (hrl.out (by first | rfl | trivial)) _ F).mono ?_
            rintro _ v2 ⟨rfl, fv⟩
            have isc := isc.fr fv id
            have isk := isk.fr fv id
            have F := fr_nil F fv
            clear fv p0 p1 p2 p3 p4 p5 p6 p7 p8 k0 k1 k2 k3 k4 k5 k6
            obtain ⟨p0, p1, p2, p3, p4, p5, p6, p7, p8⟩ := conf_cells0 isc
            obtain ⟨k0, k1, k2, k3, k4, k5, k6⟩ := core_cells (K := K) isk
            go_wp2_with fail
            refine (K3 _ F).mono ?_
            rintro _ v3 ⟨rfl, fv⟩
            have isc := isc.fr fv id
            have isk := isk.fr fv id
            have F := fr_nil F fv
            clear fv p0 p1 p2 p3 p4 p5 p6 p7 p8 k0 k1 k2 k3 k4 k5 k6
            obtain ⟨p0, p1, p2, p3, p4, p5, p6, p7, p8⟩ := conf_cells0 isc
            obtain ⟨k0, k1, k2, k3, k4, k5, k6⟩ := core_cells (K := K) isk
            go_wp2_with fail
            refine (K4 _ F).mono ?_
            rintro _ v4 ⟨rfl, fv⟩
            have isc := isc.fr fv id
            have isk := isk.fr fv id
            have F := fr_nil F fv
            clear fv p0 p1 p2 p3 p4 p5 p6 p7 p8 k0 k1 k2 k3 k4 k5 k6
            go_wp2_with fail
            go_ret
            exact ⟨rfl, F⟩
          · skip
            cases b5
            · go_enter Try.func24, Try.ntmps24
              go_upto_region 1 with (fail)
              have F := HF0.out
              have isc := HIC.out
              have isk := HIK.out
              clear HF0 HIC HIK
              generalize ((w.alloc _).alloc _) = w0 at *
              obtain ⟨p0, p1, p2, p3, p4, p5, p6, p7, p8⟩ := conf_cells0 isc
              obtain ⟨k0, k1, k2, k3, k4, k5, k6⟩ := core_cells (K := K) isk
              go_wp2_with fail
              refine (HL _).mono ?_
              rintro _ v0 ⟨rfl, fv⟩
              have isc := isc.fr fv id
              have isk := isk.fr fv id
              have F := fr_nil F fv
              clear fv p0 p1 p2 p3 p4 p5 p6 p7 p8 k0 k1 k2 k3 k4 k5 k6
              obtain ⟨p0, p1, p2, p3, p4, p5, p6, p7, p8⟩ := conf_cells0 isc
              obtain ⟨k0, k1, k2, k3, k4, k5, k6⟩ := core_cells (K := K) isk
              go_wp2_with fail
              refine (K1 _ F).mono ?_
              rintro _ v1 ⟨rfl, fv⟩
              have isc := isc.fr fv id
              have isk := isk.fr fv id
              have F := fr_nil F fv
              clear fv p0 p1 p2 p3 p4 p5 p6 p7 p8 k0 k1 k2 k3 k4 k5 k6
              obtain ⟨p0, p1, p2, p3, p4, p5, p6, p7, p8⟩ := conf_cells0 isc
              obtain ⟨k0, k1, k2, k3, k4, k5, k6⟩ := core_cells (K := K) isk
              go_wp2_with fail
              refine (K2 (hrl.out (by first | rfl | trivial)) _ F).mono ?_
              rintro _ v2 ⟨rfl, fv⟩
              have isc := isc.fr fv id
              have isk := isk.fr fv id
              have F := fr_nil F fv
              clear fv p0 p1 p2 p3 p4 p5 p6 p7 p8 k0 k1 k2 k3 k4 k5 k6
              obtain ⟨p0, p1, p2, p3, p4, p5, p6, p7, p8⟩ := conf_cells0 isc
              obtain ⟨k0, k1, k2, k3, k4, k5, k6⟩ := core_cells (K := K) isk
              go_wp2_with fail
              refine (K3 _ F).mono ?_
              rintro _ v3 ⟨rfl, fv⟩
              have isc := isc.fr fv id
              have isk := isk.fr fv id
              have F := fr_nil F fv
              clear fv p0 p1 p2 p3 p4 p5 p6 p7 p8 k0 k1 k2 k3 k4 k5 k6
              obtain ⟨p0, p1, p2, p3, p4, p5, p6, p7, p8⟩ := conf_cells0 isc
              obtain ⟨k0, k1, k2, k3, k4, k5, k6⟩ := core_cells (K := K) isk
              go_wp2_with fail
              refine (K4 _ F).mono ?_
              rintro _ v4 ⟨rfl, fv⟩
              have isc := isc.fr fv id
              have isk := isk.fr fv id
              have F := fr_nil F fv
              clear fv p0 p1 p2 p3 p4 p5 p6 p7 p8 k0 k1 k2 k3 k4 k5 k6
              obtain ⟨p0, p1, p2, p3, p4, p5, p6, p7, p8⟩ := conf_cells0 isc
              obtain ⟨k0, k1, k2, k3, k4, k5, k6⟩ := core_cells (K := K) isk
              go_wp2_with fail
              refine (K5 _ F).mono ?_
              rintro _ v5 ⟨rfl, fv⟩
              have isc := isc.fr fv id
              have isk := isk.fr fv id
              have F := fr_nil F fv
              clear fv p0 p1 p2 p3 p4 p5 p6 p7 p8 k0 k1 k2 k3 k4 k5 k6
              go_wp2_with fail
              go_ret
              exact ⟨rfl, F⟩
            · skip
              cases b6
              · go_enter Try.func24, Try.ntmps24
                go_upto_region 1 with (fail)
                have F := HF0.out
                have isc := HIC.out
                have isk := HIK.out
                clear HF0 HIC HIK
                generalize ((w.alloc _).alloc _) = w0 at *
                obtain ⟨p0, p1, p2, p3, p4, p5, p6, p7, p8⟩ := conf_cells0 isc
                obtain ⟨k0, k1, k2, k3, k4, k5, k6⟩ := core_cells (K := K) isk
                go_wp2_with fail
                refine (HL _).mono ?_
                rintro _ v0 ⟨rfl, fv⟩
                have isc := isc.fr fv id
                have isk := isk.fr fv id
                have F := fr_nil F fv
                clear fv p0 p1 p2 p3 p4 p5 p6 p7 p8 k0 k1 k2 k3 k4 k5 k6
                obtain ⟨p0, p1, p2, p3, p4, p5, p6, p7, p8⟩ := conf_cells0 isc
                obtain ⟨k0, k1, k2, k3, k4, k5, k6⟩ := core_cells (K := K) isk
                go_wp2_with fail
                refine (K1 _ F).mono ?_
                rintro _ v1 ⟨rfl, fv⟩
                have isc := isc.fr fv id
                have isk := isk.fr fv id
                have F := fr_nil F fv
                clear fv p0 p1 p2 p3 p4 p5 p6 p7 p8 k0 k1 k2 k3 k4 k5 k6
                obtain ⟨p0, p1, p2, p3, p4, p5, p6, p7, p8⟩ := conf_cells0 isc
                obtain ⟨k0, k1, k2, k3, k4, k5, k6⟩ := core_cells (K := K) isk
                go_wp2_with fail
                refine (K2 (hrl.out (by first | rfl | trivial)) _ F).mono ?_
                rintro _ v2 ⟨rfl, fv⟩
                have isc := isc.fr fv id
                have isk := isk.fr fv id
                have F := fr_nil F fv
                clear fv p0 p1 p2 p3 p4 p5 p6 p7 p8 k0 k1 k2 k3 k4 k5 k6
                obtain ⟨p0, p1, p2, p3, p4, p5, p6, p7, p8⟩ := conf_cells0 isc
                obtain ⟨k0, k1, k2, k3, k4, k5, k6⟩ := core_cells (K := K) isk
                go_wp2_with fail
                refine (K3 _ F).mono ?_
                rintro _ v3 ⟨rfl, fv⟩
                have isc := isc.fr fv id
                have isk := isk.fr fv id
                have F := fr_nil F fv
                clear fv p0 p1 p2 p3 p4 p5 p6 p7 p8 k0 k1 k2 k3 k4 k5 k6
                obtain ⟨p0, p1, p2, p3, p4, p5, p6, p7, p8⟩ := conf_cells0 isc
                obtain ⟨k0, k1, k2, k3, k4, k5, k6⟩ := core_cells (K := K) isk
                go_wp2_with fail
                refine (K4 _ F).mono ?_
                rintro _ v4 ⟨rfl, fv⟩
                have isc := isc.fr fv id
                have isk := isk.fr fv id
                have F := fr_nil F fv
                clear fv p0 p1 p2 p3 p4 p5 p6 p7 p8 k0 k1 k2 k3 k4 k5 k6
                obtain ⟨p0, p1, p2, p3, p4, p5, p6, p7, p8⟩ := conf_cells0 isc
                obtain ⟨k0, k1, k2, k3, k4, k5, k6⟩ := core_cells (K := K) isk
                go_wp2_with fail
                refine (K5 _ F).mono ?_
                rintro _ v5 ⟨rfl, fv⟩
                have isc := isc.fr fv id
                have isk := isk.fr fv id
                have F := fr_nil F fv
                clear fv p0 p1 p2 p3 p4 p5 p6 p7 p8 k0 k1 k2 k3 k4 k5 k6
                obtain ⟨p0, p1, p2, p3, p4, p5, p6, p7, p8⟩ := conf_cells0 isc
                obtain ⟨k0, k1, k2, k3, k4, k5, k6⟩ := core_cells (K := K) isk
                go_wp2_with fail
                refine (K6 _ F).mono ?_
                rintro _ v6 ⟨rfl, fv⟩
                have isc := isc.fr fv id
                have isk := isk.fr fv id
                have F := fr_nil F fv
                clear fv p0 p1 p2 p3 p4 p5 p6 p7 p8 k0 k1 k2 k3 k4 k5 k6
                go_wp2_with fail
                go_ret
                exact ⟨rfl, F⟩
              · go_enter Try.func24, Try.ntmps24
                go_upto_region 1 with (fail)
                have F := HF0.out
                have isc := HIC.out
                have isk := HIK.out
                clear HF0 HIC HIK
                generalize ((w.alloc _).alloc _) = w0 at *
                obtain ⟨p0, p1, p2, p3, p4, p5, p6, p7, p8⟩ := conf_cells0 isc
                obtain ⟨k0, k1, k2, k3, k4, k5, k6⟩ := core_cells (K := K) isk
                go_wp2_with fail
                refine (HL _).mono ?_
                rintro _ v0 ⟨rfl, fv⟩
                have isc := isc.fr fv id
                have isk := isk.fr fv id
                have F := fr_nil F fv
                clear fv p0 p1 p2 p3 p4 p5 p6 p7 p8 k0 k1 k2 k3 k4 k5 k6
                obtain ⟨p0, p1, p2, p3, p4, p5, p6, p7, p8⟩ := conf_cells0 isc
                obtain ⟨k0, k1, k2, k3, k4, k5, k6⟩ := core_cells (K := K) isk
                go_wp2_with fail
                refine (K1 _ F).mono ?_
                rintro _ v1 ⟨rfl, fv⟩
                have isc := isc.fr fv id
                have isk := isk.fr fv id
                have F := fr_nil F fv
                clear fv p0 p1 p2 p3 p4 p5 p6 p7 p8 k0 k1 k2 k3 k4 k5 k6
                obtain ⟨p0, p1, p2, p3, p4, p5, p6, p7, p8⟩ := conf_cells0 isc
                obtain ⟨k0, k1, k2, k3, k4, k5, k6⟩ := core_cells (K := K) isk
                go_wp2_with fail
                refine (K2 (hrl.out (by first | rfl | trivial)) _ F).mono ?_
                rintro _ v2 ⟨rfl, fv⟩
                have isc := isc.fr fv id
                have isk := isk.fr fv id
                have F := fr_nil F fv
                clear fv p0 p1 p2 p3 p4 p5 p6 p7 p8 k0 k1 k2 k3 k4 k5 k6
                obtain ⟨p0, p1, p2, p3, p4, p5, p6, p7, p8⟩ := conf_cells0 isc
                obtain ⟨k0, k1, k2, k3, k4, k5, k6⟩ := core_cells (K := K) isk
                go_wp2_with fail
                refine (K3 _ F).mono ?_
                rintro _ v3 ⟨rfl, fv⟩
                have isc := isc.fr fv id
                have isk := isk.fr fv id
                have F := fr_nil F fv
                clear fv p0 p1 p2 p3 p4 p5 p6 p7 p8 k0 k1 k2 k3 k4 k5 k6
                obtain ⟨p0, p1, p2, p3, p4, p5, p6, p7, p8⟩ := conf_cells0 isc
                obtain ⟨k0, k1, k2, k3, k4, k5, k6⟩ := core_cells (K := K) isk
                go_wp2_with fail
                refine (K4 _ F).mono ?_
                rintro _ v4 ⟨rfl, fv⟩
                have isc := isc.fr fv id
                have isk := isk.fr fv id
                have F := fr_nil F fv
                clear fv p0 p1 p2 p3 p4 p5 p6 p7 p8 k0 k1 k2 k3 k4 k5 k6
                obtain ⟨p0, p1, p2, p3, p4, p5, p6, p7, p8⟩ := conf_cells0 isc
                obtain ⟨k0, k1, k2, k3, k4, k5, k6⟩ := core_cells (K := K) isk
                go_wp2_with fail
                refine (K5 _ F).mono ?_
                rintro _ v5 ⟨rfl, fv⟩
                have isc := isc.fr fv id
                have isk := isk.fr fv id
                have F := fr_nil F fv
                clear fv p0 p1 p2 p3 p4 p5 p6 p7 p8 k0 k1 k2 k3 k4 k5 k6
                obtain ⟨p0, p1, p2, p3, p4, p5, p6, p7, p8⟩ := conf_cells0 isc
                obtain ⟨k0, k1, k2, k3, k4, k5, k6⟩ := core_cells (K := K) isk
                go_wp2_with fail
                refine (K6 _ F).mono ?_
                rintro _ v6 ⟨rfl, fv⟩
                have isc := isc.fr fv id
                have isk := isk.fr fv id
                have F := fr_nil F fv
                clear fv p0 p1 p2 p3 p4 p5 p6 p7 p8 k0 k1 k2 k3 k4 k5 k6
                go_wp2_with fail
                go_ret
                exact ⟨rfl, F⟩

set_option maxRecDepth 100000 in
set_option maxHeartbeats 4000000 in
theorem fits_any (C : Cm) (K : Km) (w : World) (h : C.Ok w) (hK : K.Ok w) :
    Calls Try.prog 15 #[C.val, K.val] w fun e w' => e = .returned (.bool (fitsB C.cf K.kp)) ∧ Fr (fun _ => False) w w' := by
  have KC := fun W (f : Fr (fun _ => False) w W) => chk_any C W (h.fr f)
  have KS := fun W (f : Fr (fun _ => False) w W) => suits_any C K W (h.fr f) (hK.fr f)
  have hfit : fitsB C.cf K.kp = (decide (checkE C.cf = 0) && suitsB C.cf K.kp) := rfl
  rw [hfit]
  generalize suitsB C.cf K.kp = b at *
  generalize checkE C.cf = E at *
  have HF0 := Lib.hid (((Fr.refl (fun _ => False) w).alloc (.cells C.arr 30)).alloc (.cells K.arr 35))
  have HIC := Lib.hid ((Is.new w 30 C.arr).alloc (.cells K.arr 35))
  have HIK := Lib.hid (Is.new (w.alloc (.cells C.arr 30)) 35 K.arr)
  rw [show (w.alloc (.cells C.arr 30)).heap.size = w.heap.size + 1 by simp] at HIK
  clear hfit h hK
  unfold Cm.val Km.val Cm.arr Km.arr at *
  by_cases hE : E = 0
  · subst hE
    rw [decide_eq_true rfl, Bool.true_and]
    go_enter Try.func15, Try.ntmps15
    go_upto_region 1 with (fail)
    have F := HF0.out
    have isc := HIC.out
    have isk := HIK.out
    clear HF0 HIC HIK
    generalize ((w.alloc _).alloc _) = w0 at *
    obtain ⟨p0, p1, p2, p3, p4, p5, p6, p7, p8⟩ := conf_cells0 isc
    go_wp2_with fail
    refine (KC _ F).mono ?_
    rintro _ v1 ⟨rfl, fv⟩
    have isc := isc.fr fv id
    have isk := isk.fr fv id
    have F := fr_nil F fv
    clear fv p0 p1 p2 p3 p4 p5 p6 p7 p8
    obtain ⟨p0, p1, p2, p3, p4, p5, p6, p7, p8⟩ := conf_cells0 isc
    obtain ⟨k0, k1, k2, k3, k4, k5, k6⟩ := core_cells (K := K) isk
    go_wp2_with fail
    refine (KS _ F).mono ?_
    rintro _ v2 ⟨rfl, fv⟩
    have F := fr_nil F fv
    clear fv p0 p1 p2 p3 p4 p5 p6 p7 p8 k0 k1 k2 k3 k4 k5 k6
    go_wp2_with fail
    go_ret
    exact ⟨rfl, F⟩
  · rw [decide_eq_false hE, Bool.false_and]
    have e1 : (E == 0) = false := by simpa using hE
    have e2 : decide (E = 0) = false := by simpa using hE
    clear hE
    go_enter Try.func15, Try.ntmps15
    go_upto_region 1 with (fail)
    have F := HF0.out
    have isc := HIC.out
    clear HF0 HIC HIK
    generalize ((w.alloc _).alloc _) = w0 at *
    obtain ⟨p0, p1, p2, p3, p4, p5, p6, p7, p8⟩ := conf_cells0 isc
    go_wp2_with fail
    refine (KC _ F).mono ?_
    rintro _ v1 ⟨rfl, fv⟩
    have F := fr_nil F fv
    clear fv p0 p1 p2 p3 p4 p5 p6 p7 p8
    go_wp2_with fail
    go_ret
    exact ⟨rfl, F⟩
end Go.Proofs.Ytnnacdkijeoeoaa.Lk

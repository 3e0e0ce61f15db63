import Derived.Test.YtkkohdmneognlaaGreatDoorMba
import Derived.Deep.RegionHeld3
import Derived.Deep.LoopGhost
import Derived.Test.YtkkohdmneognlaaGreatDoorCards
import Derived.Test.YtkkohdmneognlaaGreatDoorTie
/- The walk of ConfParts. -/
namespace Go.Proofs.YtkkohdmneognlaaGreatDoor
open Go.RowKit

theorem locksR_small {C : Cm} (h : ∀ r ∈ C.rs, r.path.length ≤ 1048576 ∧ r.flank.length ≤ 1048576 ∧ r.over.length ≤ 1048576) (k : Int) : (locksR C k).length ≤ 3145728 := by
  unfold locksR
  by_cases hs : isSecB C.rs.length k = true
  · obtain ⟨j, rfl, hj⟩ := isSecB_true hs
    rw [if_pos hs, Int.toNat_natCast, rs_at hj]
    have a := h _ (List.getElem_mem hj)
    have b := locksM_short C.rs[j].rt
    have c : (rawLocks C.rs[j].rt).length = C.rs[j].over.length + (C.rs[j].path.length + C.rs[j].flank.length) := by
      unfold rawLocks
      rw [List.length_append, List.length_append, List.length_map, List.length_map]
      rfl
    omega
  · rw [if_neg hs]
    simp
theorem blk_new {z k : Nat} (h : (Value.slice (some ⟨z, 0, none⟩) 0 0).ownBlock = some k) : z ≤ k := by
  have e : some z = some k := h
  injection e with e
  omega
theorem cellsT_one6 (l : List St) : ∀ u ∈ cellsT l, u.oneCell' = true := by
  intro u hu
  obtain ⟨x, _, hx⟩ := List.mem_flatMap.1 hu
  simp only [List.mem_cons, List.not_mem_nil, or_false] at hx
  rcases hx with rfl | rfl | rfl <;> rfl
theorem rsameneeds_eq {A A' : Option Addr} {c c' : Nat} {a : List Nd} (w : World) (h : Rd w A (cellsN a)) (h' : Rd w A' (cellsN a)) (hl : a.length ≤ 9223372036854775807) :
    Calls Tryz.prog 21 #[.slice A a.length c, .slice A' a.length c'] w fun e w' => e = .returned (.bool true) ∧ Fr (fun _ => False) w w' := by
  have := rsameneeds_any (c := c) (c' := c') w h h' hl
  rw [decide_eq_true rfl] at this
  exact this
theorem overM_len (l : List Sec) (js : List Jo) (sg : List Sg) (r : Rt) : (overM l js sg r).length ≤ 1 := by
  unfold overM
  split <;> simp
theorem own_bound {w : World} {B n c size : Nat} {e : TypeId} {A : Option Addr} {xs : List Value} (h : w.ownsRow B e size (.slice A n c) n xs) : n ≤ 9223372036854775807 := by
  obtain ⟨_, _, e, h1, h2, _, _⟩ := wide_form h
  exact Nat.le_trans (Nat.le_trans h1 h2) (by decide)
/-- the lists behind the region of the three Locks -/
structure Three (w : World) (L : List Int) (A1 : Option Addr) (c1 : Nat) (xs : List Value) (A2 A3 : Option Addr) (wx : World) : Prop where
  own : wx.ownsRow w.heap.size 3 1 (.slice A1 L.length c1) L.length xs
  r2 : Rd wx A2 (L.map (Value.int .i64))
  r3 : Rd wx A3 (L.map (Value.int .i64))
  n2 : ∀ k, blk A1 = some k → blk A2 ≠ some k
  n3 : ∀ k, blk A1 = some k → blk A3 ≠ some k
  f : Fr (fun _ => False) w wx
theorem own_blk6 (A : Option Addr) (n c : Nat) : (Value.slice A n c).ownBlock = blk A := by cases A <;> rfl
theorem rd_head6 {w : World} {A : Option Addr} {xs ys : List Value} (h : Rd w A (xs ++ ys)) : Rd w A xs := fun h0 => by
  obtain ⟨b, o, e, hb, hc⟩ := h (by rw [List.length_append]; omega)
  exact ⟨b, o, e, hb, fun j u hu => hc j u (by rw [List.getElem?_append_left (List.getElem?_eq_some_iff.1 hu).1]; exact hu)⟩
theorem total_hb {C : Cm} (ht : C.total ≤ 1048576) : ∀ r ∈ C.rs, r.path.length ≤ 1048576 ∧ r.flank.length ≤ 1048576 ∧ r.over.length ≤ 1048576 := fun r hr => by
  have a := totalR_mem C.rs r hr
  have b : r.total = 1 + r.path.length + r.flank.length + r.over.length := rfl
  have c : C.total = C.l.length + C.js.length + C.sg.length + C.cr.length + totalR C.rs := rfl
  omega

theorem Three.set {w : World} {L : List Int} {g c1 : Nat} {xs : List Value} {A2 A3 : Option Addr} {wx : World} (T : Three w L (some ⟨g, 0, none⟩) c1 xs A2 A3 wx) (j : Nat) (u : Value) :
    Three w L (some ⟨g, 0, none⟩) c1 (xs.set j u) A2 A3 (wx.setCell ⟨g, j, none⟩ u) :=
  ⟨(T.own.stored j u).1, T.r2.fr ((Fr.refl (fun q => q = g) wx).setCell (p := ⟨g, j, none⟩) (.inl rfl) u) (fun _ e hq => T.n2 g rfl (hq ▸ e)), T.r3.fr ((Fr.refl (fun q => q = g) wx).setCell (p := ⟨g, j, none⟩) (.inl rfl) u) (fun _ e hq => T.n3 g rfl (hq ▸ e)), T.n2, T.n3,
    T.f.setCell (p := ⟨g, j, none⟩) (.inr (World.ownsRow.lt T.own g rfl).1) u⟩

set_option maxRecDepth 100000 in
set_option maxHeartbeats 16000000 in
theorem parts_any (C : Cm) (r k : Int) (w : World) (h : C.Ok w) (hR : Rds w) (hP : Pow w) (ht : C.total ≤ 1048576) :
    Calls Tryz.prog 4 #[C.val, .int .i64 r, .int .i64 k] w fun e w' => e = .returned (.bool true) ∧ Fr (fun _ => False) w w' := by
  have hsm := total_hb ht
  have f0 := (Fr.refl (fun _ => False) w).alloc (.cells C.arr 30)
  have is0 : Is (w.alloc (.cells C.arr 30)) w.heap.size 30 C.arr := Is.new w _ _
  have KL := lives_any (w.alloc (.cells C.arr 30)) (hR.fr f0) (hP.fr f0)
  have hls := locksR_small hsm r
  have HKA := Lib.hid fun W (f : Fr (fun _ => False) w W) => appr_any C r W (h.fr f)
  have HKB := Lib.hid fun W (f : Fr (fun _ => False) w W) => rapproach_any C r W (h.fr f)
  have HKC := Lib.hid fun W (f : Fr (fun _ => False) w W) => clash_any C r k W (h.fr f) fun q hq => by have := hsm q hq; omega
  have HKD := Lib.hid fun W (f : Fr (fun _ => False) w W) => rconflict_any C r k W (h.fr f) fun q hq => by have := hsm q hq; omega
  have HKL := Lib.hid fun W (f : Fr (fun _ => False) w W) => locks_any C r W (h.fr f) fun q hq => by have := hsm q hq; omega
  have HKM := Lib.hid fun W (f : Fr (fun _ => False) w W) => rlocks_any C r W (h.fr f) fun q hq => by have := hsm q hq; omega
  generalize apR C r = ap at *
  generalize clashM C r k = cl at *
  generalize locksR C r = L at *
  have hap : (ap != ap) = false := by simp
  have hcl : (cl != cl) = false := by simp
  have hF := Lib.hid f0
  have hI := Lib.hid is0
  have hH := Lib.hid h
  have hS := Lib.hid hsm
  clear f0 is0 h hsm hR hP ht
  unfold Cm.val at HKA HKB HKC HKD HKL HKM ⊢
  unfold Cm.arr at hF hI KL HKA HKB HKC HKD HKL HKM ⊢
  go_enter Tryz.func4, Tryz.ntmps4
  go_wp2_with fail
  refine KL.mono ?_
  clear KL
  rintro _ w1 ⟨rfl, f1⟩
  have F1 := fr_nil hF.out f1
  have is1 := hI.out.fr f1 id
  clear hF hI f1
  have HS : Hid (∀ W, Fr (fun _ => False) w1 W → W.cell? ⟨w.heap.size, 0, none⟩ = some (.slice C.A1 C.l.length C.c1) ∧ W.cell? ⟨w.heap.size, 1, none⟩ = some (.slice C.A2 C.js.length C.c2) ∧ W.cell? ⟨w.heap.size, 2, none⟩ = some (.slice C.A3 C.sg.length C.c3) ∧ W.cell? ⟨w.heap.size, 3, none⟩ = some (.slice C.A4 C.cr.length C.c4) ∧ W.cell? ⟨w.heap.size, 4, none⟩ = some (.slice C.A5 C.rs.length C.c5) ∧ W.cell? ⟨w.heap.size, 5, none⟩ = some (.int .i64 C.tm.age) ∧ W.cell? ⟨w.heap.size, 6, none⟩ = some (.int .i64 C.tm.brake) ∧ W.cell? ⟨w.heap.size, 7, none⟩ = some (.int .i64 C.tm.hold) ∧ W.cell? ⟨w.heap.size, 8, none⟩ = some (.int .i64 C.tm.budget)) := Lib.hid fun W fw => conf_cells0 (is1.fr fw id)
  have HG0 := Lib.hid (Fr.refl (fun _ => False) w1).drew
  have HF1 := Lib.hid F1
  have HI1 := Lib.hid is1
  have s0 := HS.out _ HG0.out
  clear is1 F1
  go_upto_region 3 with (fail)
  go_cut [33] from 16 to 34 (fun v33 wx => v33 = .bool false ∧ Fr (fun _ => False) w1 wx)
  case first =>
    go_region_held3 (fun W => W.cell? ⟨w.heap.size, 0, none⟩ = some (.slice C.A1 C.l.length C.c1) ∧ W.cell? ⟨w.heap.size, 1, none⟩ = some (.slice C.A2 C.js.length C.c2) ∧ W.cell? ⟨w.heap.size, 2, none⟩ = some (.slice C.A3 C.sg.length C.c3) ∧ W.cell? ⟨w.heap.size, 3, none⟩ = some (.slice C.A4 C.cr.length C.c4) ∧ W.cell? ⟨w.heap.size, 4, none⟩ = some (.slice C.A5 C.rs.length C.c5) ∧ W.cell? ⟨w.heap.size, 5, none⟩ = some (.int .i64 C.tm.age) ∧ W.cell? ⟨w.heap.size, 6, none⟩ = some (.int .i64 C.tm.brake) ∧ W.cell? ⟨w.heap.size, 7, none⟩ = some (.int .i64 C.tm.hold) ∧ W.cell? ⟨w.heap.size, 8, none⟩ = some (.int .i64 C.tm.budget)) (first | with_reducible exact s4 | with_reducible exact s3 | with_reducible exact s2 | with_reducible exact s1 | with_reducible exact s0) (first | (go_at_call 14; (with_reducible refine (HKA.out _ (fr_nil HF1.out HG0.out)).mono ?_); rintro _ v1 ⟨rfl, fv1⟩; have HG1 := Lib.hid (fr_nil HG0.out fv1); have s1 := HS.out _ HG1.out; clear fv1) | (go_at_call 15; (with_reducible refine (HKB.out _ (fr_nil HF1.out HG1.out)).mono ?_); rintro _ v2 ⟨rfl, fv2⟩; have HG2 := Lib.hid (fr_nil HG1.out fv2); have s2 := HS.out _ HG2.out; clear fv2) | (go_at_call 16; (with_reducible refine (HKC.out _ (fr_nil HF1.out HG2.out)).mono ?_); rintro _ v3 ⟨rfl, fv3⟩; have HG3 := Lib.hid (fr_nil HG2.out fv3); have s3 := HS.out _ HG3.out; clear fv3) | (go_at_call 17; (with_reducible refine (HKD.out _ (fr_nil HF1.out HG3.out)).mono ?_); rintro _ v4 ⟨rfl, fv4⟩; have HG4 := Lib.hid (fr_nil HG3.out fv4); have s4 := HS.out _ HG4.out; clear fv4))
    all_goals
      go_wp2_with fail
      go_meet
      exact ⟨rfl, HG4.out⟩
  case rest =>
    obtain ⟨rfl, fw2⟩ := hcut
    clear HG0 s0 HKA HKB HKC HKD hap hcl
    have HG0 := Lib.hid fw2.drew
    have s0 := HS.out _ HG0.out
    clear fw2
    go_upto_region 5 with (fail)
    go_cut [7, 8, 9] from 34 to 43 (fun v7 v8 v9 wx => ∃ A1 c1 A2 c2 A3 c3, v7 = .slice A1 L.length c1 ∧ v8 = .slice A2 L.length c2 ∧ v9 = .slice A3 L.length c3 ∧ Three w L A1 c1 (L.map (Value.int .i64)) A2 A3 wx ∧ Fr (fun _ => False) w1 wx)
    case first =>
      go_region_held3 (fun W => W.cell? ⟨w.heap.size, 0, none⟩ = some (.slice C.A1 C.l.length C.c1) ∧ W.cell? ⟨w.heap.size, 1, none⟩ = some (.slice C.A2 C.js.length C.c2) ∧ W.cell? ⟨w.heap.size, 2, none⟩ = some (.slice C.A3 C.sg.length C.c3) ∧ W.cell? ⟨w.heap.size, 3, none⟩ = some (.slice C.A4 C.cr.length C.c4) ∧ W.cell? ⟨w.heap.size, 4, none⟩ = some (.slice C.A5 C.rs.length C.c5) ∧ W.cell? ⟨w.heap.size, 5, none⟩ = some (.int .i64 C.tm.age) ∧ W.cell? ⟨w.heap.size, 6, none⟩ = some (.int .i64 C.tm.brake) ∧ W.cell? ⟨w.heap.size, 7, none⟩ = some (.int .i64 C.tm.hold) ∧ W.cell? ⟨w.heap.size, 8, none⟩ = some (.int .i64 C.tm.budget)) (first | with_reducible exact s3 | with_reducible exact s2 | with_reducible exact s1 | with_reducible exact s0) (first | (go_at_call 19; (with_reducible refine (HKM.out _ (fr_nil HF1.out HG2.out)).mono ?_); rintro _ v3 ⟨A3, c3, rfl, own3, fv3⟩; have HG3 := Lib.hid (fr_nil HG2.out fv3); have s3 := HS.out _ HG3.out; have own23 := wide_fr own2 fv3 fun _ _ => id; have own13 := wide_fr own12 fv3 fun _ _ => id; clear fv3) | (go_at_call 18; (with_reducible refine (HKL.out _ (fr_nil HF1.out HG1.out)).mono ?_); rintro _ v2 ⟨A2, c2, rfl, own2, fv2⟩; have HG2 := Lib.hid (fr_nil HG1.out fv2); have s2 := HS.out _ HG2.out; have own12 := wide_fr own1 fv2 fun _ _ => id; clear fv2) | (go_at_call 18; (with_reducible refine (HKL.out _ (fr_nil HF1.out HG0.out)).mono ?_); rintro _ v1 ⟨A1, c1, rfl, own1, fv1⟩; have HG1 := Lib.hid (fr_nil HG0.out fv1); have s1 := HS.out _ HG1.out; clear fv1))
      all_goals
        go_wp2_with fail
        go_meet
        exact ⟨A1, c1, A2, c2, A3, c3, rfl, rfl, rfl, ⟨wide_base own13 (fr_nil HF1.out HG0.out).size, wide_rd own23, wide_rd own3, fun k e1 e2 => by
          have a := (World.ownsRow.lt own1 k (by rw [own_blk6]; exact e1)).2
          have b := (World.ownsRow.lt own2 k (by rw [own_blk6]; exact e2)).1
          omega, fun k e1 e2 => by
          have a := (World.ownsRow.lt own12 k (by rw [own_blk6]; exact e1)).2
          have b := (World.ownsRow.lt own3 k (by rw [own_blk6]; exact e2)).1
          omega, fr_nil HF1.out HG3.out⟩, HG3.out⟩
    case rest =>
      obtain ⟨A1, c1, A2, c2, A3, c3, rfl, rfl, rfl, T3, fw3⟩ := hcut
      have is3 := HI1.out.fr fw3 id
      clear HG0 s0 HKL HKM HS fw3 HI1 HF1
      go_wp2_with fail
      go_loopg [10, 45] L.length (fun gi _ v45 wr => ∃ (j : Nat) (xs : List Value), j ≤ L.length ∧ gi = L.length - j ∧ v45 = .int .i64 (j : Nat) ∧ Three w L A1 c1 xs A2 A3 wr ∧ Is wr w.heap.size 30 #[.slice C.A1 C.l.length C.c1, .slice C.A2 C.js.length C.c2, .slice C.A3 C.sg.length C.c3, .slice C.A4 C.cr.length C.c4, .slice C.A5 C.rs.length C.c5, .int .i64 C.tm.age, .int .i64 C.tm.brake, .int .i64 C.tm.hold, .int .i64 C.tm.budget])
      case atStart => exact ⟨0, _, Nat.zero_le _, rfl, rfl, T3, is3⟩
      case round =>
        clear T3 is3
        obtain ⟨j, xs, hj, rfl, rfl, T3, is3⟩ := hrel
        by_cases hlt : j < L.length
        · obtain ⟨_, _, e, hnc, hmx, hb, _⟩ := wide_form T3.own
          injection e with e1 _ e2
          subst e1 e2
          obtain ⟨g, hA, hgl⟩ := hb (by omega)
          rw [hA] at T3
          have hxl := T3.own.1
          have c0 := T3.own.cellAt j (by omega)
          rw [List.getElem?_eq_getElem (by omega)] at c0
          generalize xs[j]'_ = y0 at c0
          have z0 := T3.own.frozenAt j
          have T4 := T3.set j (.int .i64 (-9))
          have is4 := is3.far (p := ⟨g, j, none⟩) (u := .int .i64 (-9)) (fun e => wide_is_ne T3.own is3 (by decide) (by rw [own_blk6]; exact congrArg some e.symm))
          have i1 : (0 : Int) ≤ (j : Int) := by omega
          have i2 : (j : Int) < (L.length : Int) := by omega
          rw [hA]
          have HA := Lib.hid hA
          have HT4 := Lib.hid T4
          have HI4 := Lib.hid is4
          clear hA T3 is3 T4 is4 hb hxl
          go_wp2_with fail
          rw [← HA.out]
          go_roundg (L.length - (j + 1))
          case measure => omega
          case rel => exact ⟨j + 1, _, by omega, rfl, by go_num, by rw [HA.out]; exact HT4.out, HI4.out⟩
        · obtain ⟨i0, hi0, hz0, hz1, hz2⟩ := info_parts Tryz.infoI6
          have hlo := World.ownsRow.lt T3.own
          have hfs := T3.f.size
          go_upto_region 12 with (at_builtin; refine wpList_append_wide _ rfl (.tmp 52) (.tmp 53) 25 rfl w.heap.size 3 i0 _ 1 8 Tryz.underlying25 hi0 hz0 hz1 hz2 rfl (by decide) (.slice A1 L.length c1) L.length xs rfl (T3.own.alloc _) (some ⟨wr.heap.size, 0, none⟩) 1 1 [.int .i64 (-9)] rfl rfl (lit_rd_at rfl _ _) (by simp [Value.oneCell']) (by unfold maxLen; omega) (by omega) (by simp; omega) ?_; intro v9 w9 own9 hg9 hat9; obtain ⟨A9, c9, rfl, _, _, _, _⟩ := wide_form own9)
          have fg : Fr (fun j => (Value.slice A1 L.length c1).ownBlock = some j) wr w9 := ((Fr.refl _ wr).alloc (.cells #[.int .i64 (-9)] 3)).grown hg9 fun j hj => .inl hj
          have F9 := T3.f.trans fg fun j hj e => by have := (hlo j e).1; omega
          have rd2 := T3.r2.fr fg fun k e hq => T3.n2 k (by rw [own_blk6] at hq; exact hq) e
          have rd3 := T3.r3.fr fg fun k e hq => T3.n3 k (by rw [own_blk6] at hq; exact hq) e
          have is9 := is3.fr fg (wide_is_ne T3.own is3 (by decide))
          have KS := sameints_any (c := c2) (c' := c3) rd2 rd3 (by omega)
          clear T3 is3 hlo hg9 hat9 fg rd2 rd3 own9 hfs
          go_wp2_with fail
          refine KS.mono ?_
          clear KS
          rintro _ w10 ⟨rfl, f10⟩
          have F10 := fr_nil F9 f10
          have is10 := is9.fr f10 id
          obtain ⟨p0, p1, p2, p3, p4, p5, p6, p7, p8⟩ := conf_cells0 is10
          clear f10 F9 is9
          go_wp2_with fail
          clear p0 p1 p2 p3 p4 p5 p6 p7 p8
          go_loopg [12, 13, 70] C.rs.length (fun gi _ _ v70 wr => ∃ j : Nat, j ≤ C.rs.length ∧ gi = C.rs.length - j ∧ v70 = .int .i64 (j : Nat) ∧ Is wr w.heap.size 30 #[.slice C.A1 C.l.length C.c1, .slice C.A2 C.js.length C.c2, .slice C.A3 C.sg.length C.c3, .slice C.A4 C.cr.length C.c4, .slice C.A5 C.rs.length C.c5, .int .i64 C.tm.age, .int .i64 C.tm.brake, .int .i64 C.tm.hold, .int .i64 C.tm.budget] ∧ Fr (fun _ => False) w wr)
          case atStart => exact ⟨0, Nat.zero_le _, rfl, rfl, is10, F10⟩
          case round =>
            clear is10 F10
            obtain ⟨j, hj, rfl, rfl, isc, F⟩ := hrel
            by_cases hlt : j < C.rs.length
            · obtain ⟨g, o, hA, q0, q1, q2, q3, q4, q5⟩ := rd_ro (hH.out.rts.fr F fun _ _ => id) hlt
              have hro : C.rs[j].Ok w := hH.out.each _ (List.getElem_mem hlt)
              have hsq := hS.out _ (List.getElem_mem hlt)
              have HLT := Lib.hid hlt
              generalize C.rs[j] = q at *
              have isl := Is.new wr 43 #[.int .i64 q.entry, .int .i64 q.exit, .slice q.a1 q.path.length q.c1, .slice q.a2 q.flank.length q.c2, .slice q.a3 q.over.length q.c3, .bool q.shunt]
              have isc1 := isc.alloc (.cells #[.int .i64 q.entry, .int .i64 q.exit, .slice q.a1 q.path.length q.c1, .slice q.a2 q.flank.length q.c2, .slice q.a3 q.over.length q.c3, .bool q.shunt] 43)
              have F1 := F.alloc (.cells #[.int .i64 q.entry, .int .i64 q.exit, .slice q.a1 q.path.length q.c1, .slice q.a2 q.flank.length q.c2, .slice q.a3 q.over.length q.c3, .bool q.shunt] 43)
              have hro1 := hro.fr F1
              have i1 : (0 : Int) ≤ (j : Int) := by omega
              have i2 : (j : Int) < (C.rs.length : Int) := by omega
              rw [hA]
              have HA := Lib.hid hA
              clear hA isc F hlt
              go_upto_region 17 with (fail)
              generalize wr.heap.size = bl at *
              generalize wr.alloc _ = w1 at *
              clear q0 q1 q2 q3 q4 q5 i1 i2
              obtain ⟨r0, r1, r2, r3, r4, r5⟩ := ro_cells (isl.alloc (.cells #[] 45))
              obtain ⟨i0, hi0, hz0, hz1, hz2⟩ := info_parts Tryz.infoT
              have hpl := hsq.1
              have rd1 := hro1.path.fr ((Fr.refl (fun _ => False) w1).alloc (.cells #[] 45)) fun _ _ => id
              have hz1s := F1.size
              have hew : (w1.alloc (.cells #[] 45)).ownsRow w1.heap.size 45 3 (.slice (some ⟨w1.heap.size, 0, none⟩) 0 0) 0 [] := ⟨by simp, .inr ⟨w1.heap.size, 0, #[], rfl, Nat.le_refl _, heap_alloc_new w1 _, Nat.le_refl _, by unfold maxLen; omega, by simp, by simp⟩⟩
              go_upto_region 18 with (first | (at_builtin; refine wpList_append_wide _ rfl (.tmp 74) (.tmp 76) 40 rfl w1.heap.size 45 i0 _ 3 24 Tryz.underlying40 hi0 hz0 hz1 hz2 rfl (by decide) (.slice (some ⟨w1.heap.size, 0, none⟩) 0 0) 0 [] rfl hew q.a1 q.c1 q.path.length (cellsT q.path) (cellsT_length _) rfl rd1 (cellsT_one6 _) (by unfold maxLen; omega) (by omega) (by simp) ?_; intro v2 w2 own2 hg2 hat2; rw [Nat.zero_add, List.nil_append] at own2; obtain ⟨A2', c2', rfl, _, _, _, _⟩ := wide_form own2; have hlo2 := World.ownsRow.lt own2; have f2 : Fr (fun _ => False) w1 w2 := ((Fr.refl (fun _ => False) w1).alloc (.cells #[] 45)).grown hg2 (fun k hk => .inr (blk_new hk)); have hz2s := f2.size; clear hg2 hat2) | (at_builtin; refine wpList_append_wide _ rfl (.tmp 77) (.tmp 79) 40 rfl w1.heap.size 45 i0 _ 3 24 Tryz.underlying40 hi0 hz0 hz1 hz2 rfl (by decide) (.slice A2' q.path.length c2') q.path.length (cellsT q.path) rfl (own2.alloc _) (some ⟨w2.heap.size, 0, none⟩) 1 1 [.int .i64 (-7), .int .i64 0, .int .i64 0] rfl rfl (lit_rd_at rfl _ _) (by simp [Value.oneCell']) (by unfold maxLen; omega) (by omega) (by simp; omega) ?_; intro v3 w3 own3 hg3 hat3; obtain ⟨A3', c3', rfl, hc3', hm3', hA3', _⟩ := wide_form own3))
              obtain ⟨g3, rfl, hg3l⟩ := hA3' (by omega)
              have f3 : Fr (fun _ => False) w1 w3 := (f2.alloc (.cells #[.int .i64 (-7), .int .i64 0, .int .i64 0] 45)).grown hg3 fun k hk => .inr (hlo2 k hk).1
              have FX := fr_nil F1 f3
              have isc3 := isc1.fr f3 id
              have isl3 := isl.fr f3 id
              have rdA := wide_rd own3
              have hc7 : ∀ W, Fr (fun _ => False) w3 W → W.cell? ⟨g3, q.path.length * 3, none⟩ = some (.int .i64 (-7)) := fun W fw => by
                obtain ⟨b, o', e, hb, hc⟩ := rdA.fr fw (fun _ _ => id) (by simp)
                injection e with e
                injection e with e1 e2
                subst e1 e2
                have := hc (q.path.length * 3) (.int .i64 (-7)) (by rw [List.getElem?_append_right (by rw [cellsT_length]; exact Nat.le_refl _), cellsT_length, Nat.sub_self]; rfl)
                rw [Nat.zero_add] at this
                exact this
              have HC7 := Lib.hid hc7
              have HRH := Lib.hid (rd_head6 rdA)
              have HFX := Lib.hid FX
              have HISC := Lib.hid isc3
              have HISL := Lib.hid isl3
              have HRO := Lib.hid hro
              have HSQ := Lib.hid hsq
              have HCC := Lib.hid hc3'
              clear hlo2 f2 hg3 hat3 own2 own3 f3 rd1 hew r0 r1 r2 r3 r4 r5 FX isc1 isl isc3 isl3 F1 hro1 rdA hc7 hro hsq hz1s hz2s hg3l hm3' hc3'
              have kF := fun W (f : Fr (fun _ => False) w W) (hp : Rd W (some ⟨g3, 0, none⟩) (cellsT q.path)) => flank_any C k (c := c3') q.path W (hH.out.fr f) hp (by omega)
              have kG := fun W (f : Fr (fun _ => False) w W) => rflank_any C k (c := q.c1) q.path W (hH.out.fr f) (HRO.out.fr f).path (by omega)
              have kO := fun W (f : Fr (fun _ => False) w W) => overlap_any C q W (hH.out.fr f) (HRO.out.fr f)
              have kP := fun W (f : Fr (fun _ => False) w W) => roverlap_any C q W (hH.out.fr f) (HRO.out.fr f)
              have hol := overM_len C.l C.js C.sg q.rt
              have hol : (overM C.l C.js C.sg q.rt).length ≤ 140737488355328 := by omega
              unfold Cm.val Cm.arr at kF kG kO kP
              unfold Ro.val at kO kP
              rw [HA.out] at kF kG kO kP
              generalize flankM C.l C.js k q.path = NL at *
              generalize overM C.l C.js C.sg q.rt = OL at *
              have HKF := Lib.hid kF
              have HKG := Lib.hid kG
              have HKO := Lib.hid kO
              have HKP := Lib.hid kP
              clear kF kG kO kP
              have HS : Hid (∀ W, Fr (fun _ => False) w3 W → (W.cell? ⟨w.heap.size, 0, none⟩ = some (.slice C.A1 C.l.length C.c1) ∧ W.cell? ⟨w.heap.size, 1, none⟩ = some (.slice C.A2 C.js.length C.c2) ∧ W.cell? ⟨w.heap.size, 2, none⟩ = some (.slice C.A3 C.sg.length C.c3) ∧ W.cell? ⟨w.heap.size, 3, none⟩ = some (.slice C.A4 C.cr.length C.c4) ∧ W.cell? ⟨w.heap.size, 4, none⟩ = some (.slice C.A5 C.rs.length C.c5) ∧ W.cell? ⟨w.heap.size, 5, none⟩ = some (.int .i64 C.tm.age) ∧ W.cell? ⟨w.heap.size, 6, none⟩ = some (.int .i64 C.tm.brake) ∧ W.cell? ⟨w.heap.size, 7, none⟩ = some (.int .i64 C.tm.hold) ∧ W.cell? ⟨w.heap.size, 8, none⟩ = some (.int .i64 C.tm.budget)) ∧ (W.cell? ⟨bl, 0, none⟩ = some (.int .i64 q.entry) ∧ W.cell? ⟨bl, 1, none⟩ = some (.int .i64 q.exit) ∧ W.cell? ⟨bl, 2, none⟩ = some (.slice q.a1 q.path.length q.c1) ∧ W.cell? ⟨bl, 3, none⟩ = some (.slice q.a2 q.flank.length q.c2) ∧ W.cell? ⟨bl, 4, none⟩ = some (.slice q.a3 q.over.length q.c3) ∧ W.cell? ⟨bl, 5, none⟩ = some (.bool q.shunt))) := Lib.hid fun W fw => ⟨conf_cells0 (HISC.out.fr fw id), ro_cells (HISL.out.fr fw id)⟩
              rw [HA.out] at HS
              have i1 : (0 : Int) ≤ (q.path.length : Int) := by omega
              have i2 : (q.path.length : Int) ≤ (c3' : Int) := by have := HCC.out; omega
              have HG0 := Lib.hid (Fr.refl (fun _ => False) w3).drew
              have s0 := HS.out _ HG0.out
              go_cut [105] from 81 to 106 (fun v105 wx => v105 = .bool false ∧ Fr (fun _ => False) w3 wx)
              case first =>
                go_region_held3 (fun W => (W.cell? ⟨w.heap.size, 0, none⟩ = some (.slice C.A1 C.l.length C.c1) ∧ W.cell? ⟨w.heap.size, 1, none⟩ = some (.slice C.A2 C.js.length C.c2) ∧ W.cell? ⟨w.heap.size, 2, none⟩ = some (.slice C.A3 C.sg.length C.c3) ∧ W.cell? ⟨w.heap.size, 3, none⟩ = some (.slice C.A4 C.cr.length C.c4) ∧ W.cell? ⟨w.heap.size, 4, none⟩ = some (.slice (some ⟨g, o, none⟩) C.rs.length C.c5) ∧ W.cell? ⟨w.heap.size, 5, none⟩ = some (.int .i64 C.tm.age) ∧ W.cell? ⟨w.heap.size, 6, none⟩ = some (.int .i64 C.tm.brake) ∧ W.cell? ⟨w.heap.size, 7, none⟩ = some (.int .i64 C.tm.hold) ∧ W.cell? ⟨w.heap.size, 8, none⟩ = some (.int .i64 C.tm.budget)) ∧ (W.cell? ⟨bl, 0, none⟩ = some (.int .i64 q.entry) ∧ W.cell? ⟨bl, 1, none⟩ = some (.int .i64 q.exit) ∧ W.cell? ⟨bl, 2, none⟩ = some (.slice q.a1 q.path.length q.c1) ∧ W.cell? ⟨bl, 3, none⟩ = some (.slice q.a2 q.flank.length q.c2) ∧ W.cell? ⟨bl, 4, none⟩ = some (.slice q.a3 q.over.length q.c3) ∧ W.cell? ⟨bl, 5, none⟩ = some (.bool q.shunt))) (first | with_reducible exact s6 | with_reducible exact s5 | with_reducible exact s4 | with_reducible exact s3 | with_reducible exact s2 | with_reducible exact s1 | with_reducible exact s0) (first | (go_at_call 20; (with_reducible refine (sameints_any (c := cd) (c' := ce) HND2.out HNE.out hol).mono ?_); rintro _ v6 ⟨rfl, fv6⟩; have HG6 := Lib.hid (fr_nil HG5.out fv6); have s6 := HS.out _ HG6.out; clear fv6) | (go_at_call 25; (with_reducible refine (HKP.out _ (fr_nil HFX.out HG4.out)).mono ?_); rintro _ v5 ⟨Ae, ce, rfl, owne, fv5⟩; have HG5 := Lib.hid (fr_nil HG4.out fv5); have s5 := HS.out _ HG5.out; have HND2 := Lib.hid (HND.out.fr fv5 fun _ _ => id); have HNE := Lib.hid (wide_rd owne); clear fv5 owne) | (go_at_call 24; (with_reducible refine (HKO.out _ (fr_nil HFX.out HG3.out)).mono ?_); rintro _ v4 ⟨Ad, cd, rfl, ownd, fv4⟩; have HG4 := Lib.hid (fr_nil HG3.out fv4); have s4 := HS.out _ HG4.out; have HND := Lib.hid (wide_rd ownd); clear fv4 ownd) | (go_at_call 21; (with_reducible refine (rsameneeds_eq (c := ca) (c' := cb) _ HNA2.out HNB.out HNL.out).mono ?_); rintro _ v3 ⟨rfl, fv3⟩; have HG3 := Lib.hid (fr_nil HG2.out fv3); have s3 := HS.out _ HG3.out; clear fv3) | (go_at_call 23; (with_reducible refine (HKG.out _ (fr_nil HFX.out HG1.out)).mono ?_); rintro _ v2 ⟨Ab, cb, rfl, ownb, fv2⟩; have HG2 := Lib.hid (fr_nil HG1.out fv2); have s2 := HS.out _ HG2.out; have HNA2 := Lib.hid (HNA.out.fr fv2 fun _ _ => id); have HNB := Lib.hid (wide_rd ownb); clear fv2 ownb) | (go_at_call 22; (with_reducible refine (HKF.out _ (fr_nil HFX.out HG0.out) (HRH.out.fr HG0.out fun _ _ => id)).mono ?_); rintro _ v1 ⟨Aa, ca, rfl, owna, fv1⟩; have HG1 := Lib.hid (fr_nil HG0.out fv1); have s1 := HS.out _ HG1.out; have HNA := Lib.hid (wide_rd owna); have HNL := Lib.hid (own_bound owna); clear fv1 owna))
                all_goals
                  go_wp2_with fail
                  go_meet
                  exact ⟨rfl, HG6.out⟩
              case rest =>
                obtain ⟨rfl, fwx⟩ := hcut
                have HS7 : Hid (∀ W, Fr (fun _ => False) w3 W → (W.cell? ⟨bl, 2, none⟩ = some (.slice q.a1 q.path.length q.c1)) ∧ W.cell? ⟨g3, q.path.length * 3, none⟩ = some (.int .i64 (-7))) := Lib.hid fun W fw => ⟨(HISL.out.fr fw id).cell 2, HC7.out W fw⟩
                have HG0 := Lib.hid fwx.drew
                have s0 := HS7.out _ HG0.out
                have i3 : (q.path.length : Int) < (q.path.length : Int) + 1 := by omega
                have i4 : q.path.length < q.path.length + 1 := by omega
                have hpl2 : q.path.length ≤ 140737488355328 := by omega
                have hm7 : ((-7 : Int) != -7) = false := by decide
                clear HKF HKG HKO HKP hol HS HC7 fwx
                go_upto_region 20 with (fail)
                go_region_held3 (fun W => (W.cell? ⟨bl, 2, none⟩ = some (.slice q.a1 q.path.length q.c1)) ∧ W.cell? ⟨g3, q.path.length * 3, none⟩ = some (.int .i64 (-7))) (first | with_reducible exact s1 | with_reducible exact s0) (first | (go_at_call 26; (with_reducible refine (samesteps_any (c := c3') (c' := q.c1) (HRH.out.fr HG0.out fun _ _ => id) (HRO.out.fr (fr_nil HFX.out HG0.out)).path hpl2).mono ?_); rintro _ v1 ⟨rfl, fv1⟩; have HG1 := Lib.hid (fr_nil HG0.out fv1); have s1 := HS7.out _ HG1.out; clear fv1))
                all_goals
                  have FZ := fr_nil HFX.out HG1.out
                  have iscz := HISC.out.fr HG1.out id
                  clear HISL HS7 HRH HRO HFX HISC s0 s1 HG0 HG1
                  go_wp2_with fail
                  rw [← HA.out]
                  have hlj := HLT.out
                  have hb5 := hH.out.b5
                  go_roundg (C.rs.length - (j + 1))
                  case measure => omega
                  case rel => exact ⟨j + 1, Nat.succ_le_of_lt HLT.out, rfl, by first | go_num | (rw [IntWalk.wrap64_in ((j : Int) + 1) ⟨by omega, by omega⟩]; rfl), by first | exact iscz | (rw [HA.out]; exact iscz), FZ⟩
            · go_wp2_with fail
              go_ret
              exact ⟨rfl, F⟩
end Go.Proofs.YtkkohdmneognlaaGreatDoor
/- ConfParts (P6.1): flanks, overlaps, approaches, what routes lock, and which conflict, is what the document says; lists are new memory. For every configuration of bulk at most 1048576 (beyond any machine's memory what a route locks, told once from its path, flank and overlap, is longer than a list may be), every whole number. The package-level variables that its row lists hold what the program's text lays (the card ties that). -/
namespace Go.Proofs.YtkkohdmneognlaaGreatDoor.confParts
open Go.ChangeShapes Go.WideShapes Go.ChangeAt Go.RowKit Go.Lib
open Go.ChangeMaps (open_string shut_string)

def wA : Array Value := #[.agg zeroCf, .int .i64 0, .int .i64 0]
theorem met (os : Os) : laidMet Tryz.prog Rows.confPartsUptoRow.laid ((laidWorld os).forCall (fun _ _ => 0) ⟨#[], wA, []⟩).memory := laid_met os
theorem witness_row (os : Os) {H : Type} (enc : TypeId × Value → H) :
    (Rows.OpenSpec.upto Rows.confPartsSpec).preRow enc Tryz.prog Tryz.f4 Rows.confPartsUptoRow.domain false Rows.confPartsUptoRow.laid ((laidWorld os).forCall (fun _ _ => 0) ⟨#[], wA, []⟩).memory wA := by
  have hw : (DataW.whole enc Tryz.prog ((laidWorld os).forCall (fun _ _ => 0) ⟨#[], wA, []⟩).memory Tryz.f4.params.toList Rows.confPartsSpec.vars false wA.toList 8).map (fun x => (x.1, x.2.1)) =
      some ([.agg [.nil, .nil, .nil, .nil, .nil, .agg [.lit (.int .i64 0), .lit (.int .i64 0), .lit (.int .i64 0), .lit (.int .i64 0)]], .lit (.int .i64 0), .lit (.int .i64 0)], []) := by kernel_rfl
  obtain ⟨⟨x1, x2, x3⟩, hx, hx1⟩ := Option.map_eq_some_iff.1 hw
  simp only [Prod.mk.injEq] at hx1
  obtain ⟨rfl, rfl⟩ := hx1
  exact OpenSpec.preRow_of_cond 8 hx (by kernel_rfl) (fun k hk => by cases hk; kernel_rfl) (by kernel_rfl) (met os)

set_option maxRecDepth 100000 in
theorem lifted (os : Os) (started : os.Started) (H : Type) (enc : TypeId × Value → H) (F : Stop.Interp) :
    ReturnsInHanded {} Tryz.checked os 4 .any ((Rows.OpenSpec.upto Rows.confPartsSpec).preRow enc Tryz.prog Tryz.f4 Rows.confPartsUptoRow.domain false Rows.confPartsUptoRow.laid) (((Rows.OpenSpec.upto Rows.confPartsSpec).at F).post enc Tryz.prog Tryz.f4 false true false false) := by
  refine returnsInHanded_of_row (C := Tryz.checked) (s := Rows.OpenSpec.upto Rows.confPartsSpec) Tryz.own started (by kernel_rfl) Tryz.func4
    (witness_row_atRef (enc := enc) (C := Tryz.checked) false (laidWorld os) wA rfl (by kernel_rfl) (by kernel_rfl) (by kernel_rfl) (witness_row os enc)) ?_
  intro W base args ds gs before hval0 hW _ hcond hsz0 hL hsh _
  have hval : ∀ (j : Nat) t v, Tryz.f4.params[j]? = some t → args[j]? = some v → Value.okWide Tryz.prog W .any base t v := hval0
  have hsz : (DataW.weightsEach Tryz.prog (Tryz.f4.params.toList ++ (Rows.OpenSpec.upto Rows.confPartsSpec).bare.plain.varTypes Tryz.prog) (ds ++ gs)).all (· ≤ reachBytes) = true := hsz0
  have hW' := hW
  obtain ⟨p, q, hA0, hV, rfl, hfz, hnd⟩ := hW
  have hA : DataW.TrodAll enc Tryz.prog W 0 (fun _ => true) true Tryz.f4.params.toList args.toList ds p := hA0
  rw [Tryz.params4] at hA hval hsz
  obtain ⟨v0, v1, v2, d0, d1, d2, p0, p1, p2, rfl, rfl, rfl, h0, h1, h2⟩ := trodAll_three hA
  obtain ⟨rfl, rfl⟩ := trodVars_none hV
  obtain ⟨C, rfl, hin⟩ := open_conf (hval 0 30 v0 rfl rfl) h0
  obtain ⟨a1, rfl, rfl, rfl, w1⟩ := open_int Tryz.underlying3 (hval 1 3 v1 rfl rfl) h1
  obtain ⟨a2, rfl, rfl, rfl, w2⟩ := open_int Tryz.underlying3 (hval 2 3 v2 rfl rfl) h2
  have hk := hcond _ rfl
  rw [List.append_nil] at hk
  obtain ⟨hok, ht⟩ := small_conf hk hin
  refine (parts_any C a1 a2 W hok (laid_rds hL hsh) (laid_pow hL) ht).mono fun e W' ⟨he, hb⟩ => ?_
  subst he
  exact law_post hW' rfl (by kernel_rfl) (by rw [Tryz.params4]; exact of_decide_eq_true (by kernel_rfl)) rfl rfl rfl hb.toBelow0

theorem said : Rows.ConfPartsUptoSaid :=
  OpenClaim.holds_of_cond 4 Tryz.f4 rfl rfl rfl rfl rfl rfl rfl ⟨rfl, rfl, rfl, rfl, rfl⟩ rfl rfl rfl rfl rfl (by kernel_rfl) Tryz.func4 (by kernel_rfl)
    (of_decide_eq_true (by kernel_rfl)) (by unfold Func.isWrapper; first | (rw [if_pos (by decide +kernel)]; kernel_rfl) | (rw [if_neg (by decide +kernel)]; exact ⟨rfl, rfl⟩))
    (fun os started H enc _ F => by rw [OpenClaim.pre_eq_preRow]; exact lifted os started H enc F)

/-- No parameter wants a stand-in: what the card asks. -/
theorem plain (f : FuncId) (fn : Func) (hf : Tryz.pinned.checked.prog.funcNamed "ballast/ballastlaw06.ConfParts" = some f) (hfn : Tryz.pinned.checked.prog.funcs[f]? = some fn) :
    true = Tryz.pinned.checked.prog.looks [] ∧ ∀ (j : Nat) t, fn.params[j]? = some t → Tryz.pinned.checked.prog.wantsStandIn t = false := by
  obtain rfl : f = 4 := Option.some.inj ((show Tryz.prog.funcNamed "ballast/ballastlaw06.ConfParts" = some 4 by kernel_rfl).symm.trans hf) |>.symm
  obtain rfl : fn = Tryz.f4 := (Option.some.inj (Tryz.func4.symm.trans hfn)).symm
  refine ⟨by kernel_rfl, fun j t ht => ?_⟩
  rw [Tryz.params4] at ht
  have hm := Array.mem_of_getElem? ht
  simp only [List.mem_toArray, List.mem_cons, List.not_mem_nil, or_false] at hm
  rcases hm with rfl | rfl | rfl
  · exact (show Tryz.prog.wantsStandIn 30 = false by kernel_rfl)
  · exact (show Tryz.prog.wantsStandIn 3 = false by kernel_rfl)
  · exact (show Tryz.prog.wantsStandIn 3 = false by kernel_rfl)

theorem proved : Rows.ConfPartsUptoCardSaid :=
  Claim7.holds_tied_plain_at .later [] _ _ _ _ said (fun _ h => by cases h) (by kernel_rfl) (fun _ h => by cases h) confPartsUpto_row_tie rfl ⟨rfl, rfl⟩ (by kernel_rfl) rfl plain (by kernel_rfl)
end Go.Proofs.YtkkohdmneognlaaGreatDoor.confParts

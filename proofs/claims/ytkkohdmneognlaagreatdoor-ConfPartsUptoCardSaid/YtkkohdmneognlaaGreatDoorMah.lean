/- The contract of Overlap. -/
import Derived.Test.YtkkohdmneognlaaGreatDoorMag
import Derived.Deep.RegionHeld3
import Derived.Laws.StructEq
namespace Go.Proofs.YtkkohdmneognlaaGreatDoor
open Go.RowKit

theorem over_split (l : List Sec) (js : List Jo) (sg : List Sg) (r : Rt) : overOk l js sg r = (!r.shunt && (beyOk sg js r.exit && (isSecB l.length (beyS sg js r.exit) && (decide (lineOf l (beyS sg js r.exit).toNat = 0) && !seenAt (barM l.length (apM sg r.entry) r.path) (beyS sg js r.exit).toNat)))) := by
  unfold overOk beyOk beyS
  cases isSecB sg.length r.exit
  · simp
  · simp
theorem overM_eq (l : List Sec) (js : List Jo) (sg : List Sg) (r : Rt) : overM l js sg r = if overOk l js sg r = true then [beyS sg js r.exit] else [] := by
  unfold overM
  by_cases h : overOk l js sg r = true
  · rw [if_pos h, if_pos h]
    unfold beyS
    unfold overOk at h
    simp only [Bool.and_eq_true] at h
    rw [if_pos h.2.1]
  · rw [if_neg h, if_neg h]

set_option maxHeartbeats 4000000 in
theorem overlap_any (C : Cm) (r : Ro) (w : World) (h : C.Ok w) (hr : r.Ok w) :
    Calls Tryz.prog 24 #[C.val, r.val] w (Nums w (overM C.l C.js C.sg r.rt)) := by
  have KB := fun W (f : Fr (fun _ => False) w W) => beyond_any C r.exit W (h.fr f)
  have KS := fun W => hass_any (A := C.A1) (c := C.c1) (n := C.l.length) (beyS C.sg C.js r.exit) W
  have b1 := hr.b1
  have KA := fun W (f : Fr (fun _ => False) w W) => approach_any C r W (h.fr f)
  have KR := fun ap W (f : Fr (fun _ => False) w W) => barred_any C ap (c := r.c1) r.path W (h.fr f) (hr.path.fr f fun _ _ => id) (by omega)
  rw [overM_eq, over_split]
  clear b1
  unfold Cm.val Cm.arr Ro.val at *
  have e1 : r.rt.shunt = r.shunt := rfl
  have e2 : r.rt.exit = r.exit := rfl
  have e3 : r.rt.entry = r.entry := rfl
  have e4 : r.rt.path = r.path := rfl
  rw [e1, e2, e3, e4]
  clear e1 e2 e3 e4
  cases hsh : r.shunt
  · rw [hsh] at KA
    rw [Bool.not_false, Bool.true_and]
    generalize hQ : beyS C.sg C.js r.exit = Q at *
    generalize beyE C.sg C.js r.exit = E at *
    clear hQ
    have pre : ∀ w1 : World, Fr (fun _ => False) (((w.alloc (.cells #[.slice C.A1 C.l.length C.c1, .slice C.A2 C.js.length C.c2, .slice C.A3 C.sg.length C.c3, .slice C.A4 C.cr.length C.c4, .slice C.A5 C.rs.length C.c5, .int .i64 C.tm.age, .int .i64 C.tm.brake, .int .i64 C.tm.hold, .int .i64 C.tm.budget] 30)).alloc (.cells #[.int .i64 r.entry, .int .i64 r.exit, .slice r.a1 r.path.length r.c1, .slice r.a2 r.flank.length r.c2, .slice r.a3 r.over.length r.c3, .bool false] 43)).alloc (.cells #[.slice C.A1 C.l.length C.c1, .slice C.A2 C.js.length C.c2, .slice C.A3 C.sg.length C.c3, .slice C.A4 C.cr.length C.c4, .slice C.A5 C.rs.length C.c5, .int .i64 C.tm.age, .int .i64 C.tm.brake, .int .i64 C.tm.hold, .int .i64 C.tm.budget] 75)) w1 →
        Is w1 (w.heap.size + 1) 43 #[.int .i64 r.entry, .int .i64 r.exit, .slice r.a1 r.path.length r.c1, .slice r.a2 r.flank.length r.c2, .slice r.a3 r.over.length r.c3, .bool false] ∧ Is w1 (w.heap.size + 2) 75 C.arr ∧ Fr (fun _ => False) w w1 := fun w1 f1 =>
      ⟨((is_new_at (by simp) _ _).alloc _).fr f1 id, (is_new_at (by simp) _ _).fr f1 id, fr_nil ((((Fr.refl _ _).alloc _).alloc _).alloc _) f1⟩
    cases hO : beyOk C.sg C.js r.exit
    · rw [hO] at KB
      rw [Bool.false_and, if_neg (by decide)]
      clear hO KS KA KR
      go_enter Tryz.func24, Tryz.ntmps24
      go_wp2_with fail
      refine (KB _ ((((Fr.refl _ _).alloc _).alloc _).alloc _)).mono ?_
      clear KB
      rintro x w1 ⟨rfl, f1⟩
      obtain ⟨isr, isp, F⟩ := pre w1 f1
      clear pre f1
      go_wp2_with fail
      go_ret
      exact ⟨none, 0, rfl, World.ownsRow_nil _ _ _ _, F⟩
    · rw [hO] at KB
      rw [Bool.true_and]
      clear hO
      cases hs : isSecB C.l.length Q
      · rw [hs] at KS
        rw [Bool.false_and, if_neg (by decide)]
        clear hs KA KR
        go_enter Tryz.func24, Tryz.ntmps24
        go_wp2_with fail
        refine (KB _ ((((Fr.refl _ _).alloc _).alloc _).alloc _)).mono ?_
        clear KB
        rintro x w1 ⟨rfl, f1⟩
        obtain ⟨isr, isp, F⟩ := pre w1 f1
        have p0 := (plan_cells isp).1
        clear pre f1
        go_wp2_with fail
        refine (KS _).mono ?_
        rintro x w2 ⟨rfl, rfl⟩
        go_wp2_with fail
        go_ret
        exact ⟨none, 0, rfl, World.ownsRow_nil _ _ _ _, F⟩
      · rw [hs] at KS
        obtain ⟨k, rfl, hk⟩ := isSecB_true hs
        rw [Bool.true_and, Int.toNat_natCast, lineOf_at hk]
        obtain ⟨g, o, hA, _, _, s2⟩ := rd_sec h.secs hk
        have hg := World.block_lt_of_cell? _ ⟨g, o + k * 3 + 2, none⟩ s2
        generalize C.l[k].line = ln at *
        by_cases hl : ln = 0
        · subst hl
          rw [show decide ((0 : Int) = 0) = true from rfl, Bool.true_and]
          have hbl := barM_length C.l.length (apM C.sg r.entry) r.path
          have KR := KR (apM C.sg r.entry)
          generalize barM C.l.length (apM C.sg r.entry) r.path = bm at *
          generalize apM C.sg r.entry = ap at *
          have k1 : (0 : Int) ≤ (k : Int) := by omega
          have k2 : (k : Int) < (C.l.length : Int) := by omega
          cases hsn : seenAt bm k
          · have hsz := h.b1
            have HA := Lib.hid hA
            have HBL := Lib.hid hbl
            have S3 : ∀ (Wx : World) (b : Nat), Wx.heap[b]? = some (.cells (cellsB bm) 4 (0, 0)) → Wx.cell? ⟨b, k, none⟩ = some (.bool false) := fun Wx b hb => ((show Is Wx b 4 (cellsB bm) from hb).cell k).trans ((cellsB_at (by omega)).trans (by rw [hsn]))
            have HS3 := Lib.hid S3
            clear S3
            rw [if_pos (show (!false) = true from rfl)]
            clear hs hA hbl hsn h hr
            go_enter Tryz.func24, Tryz.ntmps24
            go_wp2_with fail
            refine (KB _ ((((Fr.refl _ _).alloc _).alloc _).alloc _)).mono ?_
            clear KB
            rintro x w1 ⟨rfl, f1⟩
            obtain ⟨isr, isp, F⟩ := pre w1 f1
            have p0 := (plan_cells isp).1
            have s2' : w1.cell? ⟨g, o + k * 3 + 2, none⟩ = some (.int .i64 0) := (F.cell (p := ⟨g, o + k * 3 + 2, none⟩) hg id).trans s2
            rw [HA.out] at p0 KS
            clear pre f1 s2
            go_wp2_with fail
            refine (KS _).mono ?_
            rintro x w2 ⟨rfl, rfl⟩
            go_upto_region 7 with (fail)
            clear s2' p0 KS
            refine wp_region_held_drew (S := fun Wx => (Wx.cell? ⟨w.heap.size + 2, 0, none⟩ = some (.slice C.A1 C.l.length C.c1) ∧ Wx.cell? ⟨w.heap.size + 2, 1, none⟩ = some (.slice C.A2 C.js.length C.c2) ∧ Wx.cell? ⟨w.heap.size + 2, 2, none⟩ = some (.slice C.A3 C.sg.length C.c3) ∧ Wx.cell? ⟨w.heap.size + 2, 3, none⟩ = some (.slice C.A4 C.cr.length C.c4) ∧ Wx.cell? ⟨w.heap.size + 2, 4, none⟩ = some (.slice C.A5 C.rs.length C.c5) ∧ Wx.cell? ⟨w.heap.size + 2, 5, none⟩ = some (.int .i64 C.tm.age) ∧ Wx.cell? ⟨w.heap.size + 2, 6, none⟩ = some (.int .i64 C.tm.brake) ∧ Wx.cell? ⟨w.heap.size + 2, 7, none⟩ = some (.int .i64 C.tm.hold) ∧ Wx.cell? ⟨w.heap.size + 2, 8, none⟩ = some (.int .i64 C.tm.budget)) ∧ (Wx.cell? ⟨w.heap.size + 1, 0, none⟩ = some (.int .i64 r.entry) ∧ Wx.cell? ⟨w.heap.size + 1, 1, none⟩ = some (.int .i64 r.exit) ∧ Wx.cell? ⟨w.heap.size + 1, 2, none⟩ = some (.slice r.a1 r.path.length r.c1) ∧ Wx.cell? ⟨w.heap.size + 1, 3, none⟩ = some (.slice r.a2 r.flank.length r.c2) ∧ Wx.cell? ⟨w.heap.size + 1, 4, none⟩ = some (.slice r.a3 r.over.length r.c3) ∧ Wx.cell? ⟨w.heap.size + 1, 5, none⟩ = some (.bool false))) (by kernel_rfl) ⟨plan_cells isp, ro_cells isr⟩ (fun hHeld => ?_)
            refine wpAnyH_take (i := 0) (v := ?_) rfl (by kernel_rfl) (by kernel_rfl) (by kernel_rfl) (fun _ _ _ h => h) (Or.inl ⟨by rfl, ?_⟩) (by assumption) ?_
            rotate_left
            · intro Wx hSw
              try dsimp only at hSw
              go_simp
              try with_reducible rfl
            try simp only [Act.put]
            refine wpAnyH_take (i := 1) (v := ?_) rfl (by kernel_rfl) (by kernel_rfl) (by kernel_rfl) (fun _ _ _ h => h) (Or.inl ⟨by rfl, ?_⟩) (by assumption) ?_
            rotate_left
            · intro Wx hSw
              try dsimp only at hSw
              go_simp
              try with_reducible rfl
            try simp only [Act.put]
            refine wpAnyH_take (i := 2) (v := ?_) rfl (by kernel_rfl) (by kernel_rfl) (by kernel_rfl) (fun _ _ _ h => h) (Or.inl ⟨by rfl, ?_⟩) (by assumption) ?_
            rotate_left
            · intro Wx hSw
              try dsimp only at hSw
              go_simp
              try with_reducible rfl
            try simp only [Act.put]
            refine wpAnyH_take (i := 4) (v := ?_) rfl (by kernel_rfl) (by kernel_rfl) (by kernel_rfl) (fun _ _ _ h => h) (Or.inl ⟨by rfl, ?_⟩) (by assumption) ?_
            rotate_left
            · intro Wx hSw
              try dsimp only at hSw
              go_simp
              try with_reducible rfl
            try simp only [Act.put]
            refine wpAnyH_take (i := 5) (v := ?_) rfl (by kernel_rfl) (by kernel_rfl) (by kernel_rfl) (fun _ _ _ h => h) (Or.inl ⟨by rfl, ?_⟩) (by assumption) ?_
            rotate_left
            · intro Wx hSw
              try dsimp only at hSw
              go_simp
              try with_reducible rfl
            try simp only [Act.put]
            refine wpAnyH_take (i := 7) (v := ?_) rfl (by kernel_rfl) (by kernel_rfl) (by kernel_rfl) (fun _ _ _ h => h) (Or.inl ⟨by rfl, ?_⟩) (by assumption) ?_
            rotate_left
            · intro Wx hSw
              try dsimp only at hSw
              go_simp
              try with_reducible rfl
            try simp only [Act.put]
            refine wpAnyH_ready (rs := [3]) (by kernel_rfl) (by simp) (AllReadyH.cons rfl (fun K hK => ?_) AllReadyH.nil)
            go_simp
            refine (KA _ (by first | exact F.drew | exact F)).mono ?_
            rintro e w4 ⟨rfl, f4⟩
            have isr4 := isr.drew.fr f4 id
            have isp4 := isp.drew.fr f4 id
            have F4 := fr_nil F.drew f4
            go_simp
            refine hK.out _ _ ⟨plan_cells isp4, ro_cells isr4⟩ (fun hHeld => ?_)
            clear hK K
            refine wpAnyH_ready (rs := [6]) (by kernel_rfl) (by simp) (AllReadyH.cons rfl (fun K hK => ?_) AllReadyH.nil)
            go_simp
            refine (KR _ F4).mono ?_
            rintro e w5 ⟨gb, rfl, hgb, isb, f5⟩
            have isr5 := isr4.fr f5 id
            have isp5 := isp4.fr f5 id
            have F5 := fr_nil F4 f5
            have b0 := HS3.out _ gb isb
            go_simp
            refine hK.out _ _ ⟨plan_cells isp5, ro_cells isr5⟩ (fun hHeld => ?_)
            clear hK K
            refine wpAnyH_take (i := 8) (v := ?_) rfl (by kernel_rfl) (by kernel_rfl) (by kernel_rfl) (fun _ _ _ h => h) (Or.inl ⟨by rfl, ?_⟩) (by assumption) ?_
            rotate_left
            · intro Wx hSw
              try dsimp only at hSw
              go_simp
              try with_reducible rfl
            refine wpAnyH_ready (rs := [9]) (by kernel_rfl) (by simp) (AllReadyH.cons rfl (fun K hK => ?_) AllReadyH.nil)
            go_simp
            refine hK.out _ _ ⟨plan_cells isp5, ro_cells isr5⟩ (fun hHeld => ?_)
            clear hK K
            refine wpAnyH_done (by kernel_rfl) ?_ _
            go_wp2_with fail
            go_ret
            exact ⟨_, _, rfl, own_one _ _ _ _ F5.size, F5.alloc _⟩
          · have hsz := h.b1
            have HA := Lib.hid hA
            have HBL := Lib.hid hbl
            have S3 : ∀ (Wx : World) (b : Nat), Wx.heap[b]? = some (.cells (cellsB bm) 4 (0, 0)) → Wx.cell? ⟨b, k, none⟩ = some (.bool true) := fun Wx b hb => ((show Is Wx b 4 (cellsB bm) from hb).cell k).trans ((cellsB_at (by omega)).trans (by rw [hsn]))
            have HS3 := Lib.hid S3
            clear S3
            rw [if_neg (by decide)]
            clear hs hA hbl hsn h hr
            go_enter Tryz.func24, Tryz.ntmps24
            go_wp2_with fail
            refine (KB _ ((((Fr.refl _ _).alloc _).alloc _).alloc _)).mono ?_
            clear KB
            rintro x w1 ⟨rfl, f1⟩
            obtain ⟨isr, isp, F⟩ := pre w1 f1
            have p0 := (plan_cells isp).1
            have s2' : w1.cell? ⟨g, o + k * 3 + 2, none⟩ = some (.int .i64 0) := (F.cell (p := ⟨g, o + k * 3 + 2, none⟩) hg id).trans s2
            rw [HA.out] at p0 KS
            clear pre f1 s2
            go_wp2_with fail
            refine (KS _).mono ?_
            rintro x w2 ⟨rfl, rfl⟩
            go_upto_region 7 with (fail)
            clear s2' p0 KS
            refine wp_region_held_drew (S := fun Wx => (Wx.cell? ⟨w.heap.size + 2, 0, none⟩ = some (.slice C.A1 C.l.length C.c1) ∧ Wx.cell? ⟨w.heap.size + 2, 1, none⟩ = some (.slice C.A2 C.js.length C.c2) ∧ Wx.cell? ⟨w.heap.size + 2, 2, none⟩ = some (.slice C.A3 C.sg.length C.c3) ∧ Wx.cell? ⟨w.heap.size + 2, 3, none⟩ = some (.slice C.A4 C.cr.length C.c4) ∧ Wx.cell? ⟨w.heap.size + 2, 4, none⟩ = some (.slice C.A5 C.rs.length C.c5) ∧ Wx.cell? ⟨w.heap.size + 2, 5, none⟩ = some (.int .i64 C.tm.age) ∧ Wx.cell? ⟨w.heap.size + 2, 6, none⟩ = some (.int .i64 C.tm.brake) ∧ Wx.cell? ⟨w.heap.size + 2, 7, none⟩ = some (.int .i64 C.tm.hold) ∧ Wx.cell? ⟨w.heap.size + 2, 8, none⟩ = some (.int .i64 C.tm.budget)) ∧ (Wx.cell? ⟨w.heap.size + 1, 0, none⟩ = some (.int .i64 r.entry) ∧ Wx.cell? ⟨w.heap.size + 1, 1, none⟩ = some (.int .i64 r.exit) ∧ Wx.cell? ⟨w.heap.size + 1, 2, none⟩ = some (.slice r.a1 r.path.length r.c1) ∧ Wx.cell? ⟨w.heap.size + 1, 3, none⟩ = some (.slice r.a2 r.flank.length r.c2) ∧ Wx.cell? ⟨w.heap.size + 1, 4, none⟩ = some (.slice r.a3 r.over.length r.c3) ∧ Wx.cell? ⟨w.heap.size + 1, 5, none⟩ = some (.bool false))) (by kernel_rfl) ⟨plan_cells isp, ro_cells isr⟩ (fun hHeld => ?_)
            refine wpAnyH_take (i := 0) (v := ?_) rfl (by kernel_rfl) (by kernel_rfl) (by kernel_rfl) (fun _ _ _ h => h) (Or.inl ⟨by rfl, ?_⟩) (by assumption) ?_
            rotate_left
            · intro Wx hSw
              try dsimp only at hSw
              go_simp
              try with_reducible rfl
            try simp only [Act.put]
            refine wpAnyH_take (i := 1) (v := ?_) rfl (by kernel_rfl) (by kernel_rfl) (by kernel_rfl) (fun _ _ _ h => h) (Or.inl ⟨by rfl, ?_⟩) (by assumption) ?_
            rotate_left
            · intro Wx hSw
              try dsimp only at hSw
              go_simp
              try with_reducible rfl
            try simp only [Act.put]
            refine wpAnyH_take (i := 2) (v := ?_) rfl (by kernel_rfl) (by kernel_rfl) (by kernel_rfl) (fun _ _ _ h => h) (Or.inl ⟨by rfl, ?_⟩) (by assumption) ?_
            rotate_left
            · intro Wx hSw
              try dsimp only at hSw
              go_simp
              try with_reducible rfl
            try simp only [Act.put]
            refine wpAnyH_take (i := 4) (v := ?_) rfl (by kernel_rfl) (by kernel_rfl) (by kernel_rfl) (fun _ _ _ h => h) (Or.inl ⟨by rfl, ?_⟩) (by assumption) ?_
            rotate_left
            · intro Wx hSw
              try dsimp only at hSw
              go_simp
              try with_reducible rfl
            try simp only [Act.put]
            refine wpAnyH_take (i := 5) (v := ?_) rfl (by kernel_rfl) (by kernel_rfl) (by kernel_rfl) (fun _ _ _ h => h) (Or.inl ⟨by rfl, ?_⟩) (by assumption) ?_
            rotate_left
            · intro Wx hSw
              try dsimp only at hSw
              go_simp
              try with_reducible rfl
            try simp only [Act.put]
            refine wpAnyH_take (i := 7) (v := ?_) rfl (by kernel_rfl) (by kernel_rfl) (by kernel_rfl) (fun _ _ _ h => h) (Or.inl ⟨by rfl, ?_⟩) (by assumption) ?_
            rotate_left
            · intro Wx hSw
              try dsimp only at hSw
              go_simp
              try with_reducible rfl
            try simp only [Act.put]
            refine wpAnyH_ready (rs := [3]) (by kernel_rfl) (by simp) (AllReadyH.cons rfl (fun K hK => ?_) AllReadyH.nil)
            go_simp
            refine (KA _ (by first | exact F.drew | exact F)).mono ?_
            rintro e w4 ⟨rfl, f4⟩
            have isr4 := isr.drew.fr f4 id
            have isp4 := isp.drew.fr f4 id
            have F4 := fr_nil F.drew f4
            go_simp
            refine hK.out _ _ ⟨plan_cells isp4, ro_cells isr4⟩ (fun hHeld => ?_)
            clear hK K
            refine wpAnyH_ready (rs := [6]) (by kernel_rfl) (by simp) (AllReadyH.cons rfl (fun K hK => ?_) AllReadyH.nil)
            go_simp
            refine (KR _ F4).mono ?_
            rintro e w5 ⟨gb, rfl, hgb, isb, f5⟩
            have isr5 := isr4.fr f5 id
            have isp5 := isp4.fr f5 id
            have F5 := fr_nil F4 f5
            have b0 := HS3.out _ gb isb
            go_simp
            refine hK.out _ _ ⟨plan_cells isp5, ro_cells isr5⟩ (fun hHeld => ?_)
            clear hK K
            refine wpAnyH_take (i := 8) (v := ?_) rfl (by kernel_rfl) (by kernel_rfl) (by kernel_rfl) (fun _ _ _ h => h) (Or.inl ⟨by rfl, ?_⟩) (by assumption) ?_
            rotate_left
            · intro Wx hSw
              try dsimp only at hSw
              go_simp
              try with_reducible rfl
            refine wpAnyH_ready (rs := [9]) (by kernel_rfl) (by simp) (AllReadyH.cons rfl (fun K hK => ?_) AllReadyH.nil)
            go_simp
            refine hK.out _ _ ⟨plan_cells isp5, ro_cells isr5⟩ (fun hHeld => ?_)
            clear hK K
            refine wpAnyH_done (by kernel_rfl) ?_ _
            go_wp2_with fail
            go_ret
            exact ⟨none, 0, rfl, World.ownsRow_nil _ _ _ _, F5⟩
        · have e0 : (ln != 0) = true := by simp [hl]
          rw [show decide (ln = 0) = false by simp [hl], Bool.false_and, if_neg (by decide)]
          have HA := Lib.hid hA
          clear hs KA KR hl hA
          go_enter Tryz.func24, Tryz.ntmps24
          go_wp2_with fail
          refine (KB _ ((((Fr.refl _ _).alloc _).alloc _).alloc _)).mono ?_
          clear KB
          rintro x w1 ⟨rfl, f1⟩
          obtain ⟨isr, isp, F⟩ := pre w1 f1
          have p0 := (plan_cells isp).1
          have s2' : w1.cell? ⟨g, o + k * 3 + 2, none⟩ = some (.int .i64 ln) := (F.cell (p := ⟨g, o + k * 3 + 2, none⟩) hg id).trans s2
          rw [HA.out] at p0 KS
          clear pre f1 s2 h
          go_wp2_with fail
          refine (KS _).mono ?_
          rintro x w2 ⟨rfl, rfl⟩
          go_wp2_with fail
          go_ret
          exact ⟨none, 0, rfl, World.ownsRow_nil _ _ _ _, F⟩
  · rw [Bool.not_true, Bool.false_and, if_neg (by decide)]
    clear KB KS KA KR
    go_enter Tryz.func24, Tryz.ntmps24
    go_wp2_with fail
    go_ret
    exact ⟨none, 0, rfl, World.ownsRow_nil _ _ _ _, ((Fr.refl _ _).alloc _).alloc _⟩
end Go.Proofs.YtkkohdmneognlaaGreatDoor
/- The contract of Locks: what a route locks. -/
namespace Go.Proofs.YtkkohdmneognlaaGreatDoor
open Go.RowKit

theorem Tryz.infoI6 : (Tryz.prog.info? 3).map (fun i => (i.zero, i.size, i.bytes)) = some (some (.int .i64 0), 1, 8) := by kernel_rfl

theorem wide_base {w : World} {e : TypeId} {B B' size n : Nat} {v : Value} {xs : List Value} (h : w.ownsRow B e size v n xs) (hb : B' ≤ B) : w.ownsRow B' e size v n xs := by
  refine ⟨h.1, ?_⟩
  rcases h.2 with k | ⟨g, cap, cur, hv, hB, r⟩
  · exact .inl k
  · exact .inr ⟨g, cap, cur, hv, Nat.le_trans hb hB, r⟩
theorem take_snoc_map {α : Type} (f : α → Int) {l : List α} {k : Nat} (h : k < l.length) : (l.take (k + 1)).map f = (l.take k).map f ++ [f l[k]] := by
  rw [List.take_succ_eq_append_getElem h, List.map_append]
  rfl
set_option maxHeartbeats 4000000 in
theorem locks_any (C : Cm) (k : Int) (w : World) (h : C.Ok w) (hb : ∀ r ∈ C.rs, (r.over.length + (r.path.length + r.flank.length)) * 8 ≤ 140737488355328) :
    Calls Tryz.prog 18 #[C.val, .int .i64 k] w (Nums w (locksR C k)) := by
  have K := fun W => hasr_any (A := C.A5) (c := C.c5) (n := C.rs.length) k W
  unfold locksR
  cases hs : isSecB C.rs.length k
  · rw [hs] at K
    rw [if_neg (by decide)]
    clear hs
    unfold Cm.val Cm.arr
    go_enter Tryz.func18, Tryz.ntmps18
    go_wp2_with fail
    refine (K _).mono ?_
    rintro e w1 ⟨rfl, rfl⟩
    go_wp2_with fail
    go_ret
    exact ⟨none, 0, rfl, World.ownsRow_nil _ _ _ _, (Fr.refl _ _).alloc _⟩
  · rw [hs] at K
    obtain ⟨j, rfl, hlt⟩ := isSecB_true hs
    rw [if_pos rfl, Int.toNat_natCast, rs_at hlt]
    have hbr := hb _ (List.getElem_mem hlt)
    have hr := h.each _ (List.getElem_mem hlt)
    obtain ⟨g, o, hA, q0, q1, q2, q3, q4, q5⟩ := rd_ro h.rts hlt
    have hg := World.block_lt_of_cell? _ ⟨g, o + j * 6, none⟩ q0
    clear hs h
    generalize C.rs[j] = r at *
    have hraw : rawLocks r.rt = r.over ++ (r.path.map St.sec ++ r.flank.map Nd.sec) := rfl
    have hlm : locksM r.rt = Lib.compact (sortM (rawLocks r.rt)) := rfl
    rw [hlm, hraw]
    clear hraw hlm hb
    obtain ⟨en, ex, a1, k1, path, a2, k2, flank, a3, k3, over, sh⟩ := r
    have h1 := hr.path
    have h2 := hr.flank
    have h3 := hr.over
    clear hr
    dsimp only at *
    have KC := fun W (f : Fr (fun _ => False) w W) => clone_any (c := k3) W (h3.fr f fun _ _ => id) (by omega)
    obtain ⟨i0, hi0, hz0, hz1, hz2⟩ := info_parts Tryz.infoI6
    unfold Cm.val Cm.arr
    rw [hA] at K ⊢
    clear hA
    go_enter Tryz.func18, Tryz.ntmps18
    go_wp2_with fail
    refine (K _).mono ?_
    clear K
    rintro e w1 ⟨rfl, rfl⟩
    go_wp2_with fail
    refine (KC _ (((Fr.refl _ _).alloc _).alloc _)).mono ?_
    clear KC
    rintro e w1 ⟨A1, c1, rfl, hown, f1⟩
    have isr : Is w1 (w.heap.size + 1) 43 #[.int .i64 en, .int .i64 ex, .slice a1 path.length k1, .slice a2 flank.length k2, .slice a3 over.length k3, .bool sh] := (is_new_at (by simp) _ _).fr f1 id
    have F := fr_nil (((Fr.refl (fun _ => False) w).alloc (.cells #[.slice C.A1 C.l.length C.c1, .slice C.A2 C.js.length C.c2, .slice C.A3 C.sg.length C.c3, .slice C.A4 C.cr.length C.c4, .slice (some ⟨g, o, none⟩) C.rs.length C.c5, .int .i64 C.tm.age, .int .i64 C.tm.brake, .int .i64 C.tm.hold, .int .i64 C.tm.budget] 30)).alloc (.cells #[.int .i64 en, .int .i64 ex, .slice a1 path.length k1, .slice a2 flank.length k2, .slice a3 over.length k3, .bool sh] 43)) f1
    have hown1 : w1.ownsRow w.heap.size 3 1 (.slice A1 over.length c1) over.length (over.map (Value.int .i64)) := wide_base hown (by simp; omega)
    obtain ⟨r0, r1, r2, r3, r4, r5⟩ := ro_cells (r := ⟨en, ex, a1, k1, path, a2, k2, flank, a3, k3, over, sh⟩) isr
    clear hown f1
    go_wp2_with fail
    clear r0 r1 r2 r3 r4 r5 q0 q1 q2 q3 q4 q5
    go_loopw [6, 27] (fun v6 v27 wr => ∃ (i : Nat) (L : List Int) (A : Option Addr) (c : Nat), i ≤ path.length ∧ v27 = .int .i64 (i : Nat) ∧ v6 = .slice A L.length c ∧ L = over ++ (path.take i).map St.sec ∧
        wr.ownsRow w.heap.size 3 1 (.slice A L.length c) L.length (L.map (Value.int .i64)) ∧ Is wr (w.heap.size + 1) 43 #[.int .i64 en, .int .i64 ex, .slice a1 path.length k1, .slice a2 flank.length k2, .slice a3 over.length k3, .bool sh] ∧ Fr (fun _ => False) w wr)
      (fun _ i _ => path.length - (intOf i).toNat)
    case atStart => exact ⟨0, over, A1, c1, Nat.zero_le _, rfl, rfl, by simp, hown1, isr, F⟩
    case round =>
      clear hown1 isr F
      obtain ⟨i, L, A, c, hi, rfl, rfl, hL, hown, isr, F⟩ := hrel
      have hLl : L.length = over.length + i := by rw [hL, List.length_append, List.length_map, List.length_take]; omega
      have hLn : (L.length + 1) * 8 ≤ 140737488355328 ∨ ¬ i < path.length := by omega
      have HLL := Lib.hid hLl
      have HL := Lib.hid hL
      clear hLl hL
      by_cases hlp : i < path.length
      · obtain ⟨ga, oa, rfl, q0, q1, q2⟩ := rd_st (h1.fr F fun _ _ => id) hlp
        have hLn : (L.length + 1) * 8 ≤ 140737488355328 := by omega
        have hts := take_snoc_map St.sec hlp
        have HTS := Lib.hid hts
        clear hts
        generalize path[i] = v at *
        have hlo := World.ownsRow.lt hown
        go_wp2_with (at_builtin; refine wpList_append_wide _ rfl (.tmp 31) (.tmp 34) 25 rfl w.heap.size 3 i0 _ 1 8 Tryz.underlying25 hi0 hz0 hz1 hz2 rfl (by decide) (.slice A L.length c) L.length (L.map (Value.int .i64)) rfl ((hown.alloc _).alloc _) (some ⟨wr.heap.size + 1, 0, none⟩) 1 1 [.int .i64 v.sec] rfl rfl (lit_rd_at (by simp) _ _) (by simp [Value.oneCell']) (by unfold maxLen; omega) (by omega) (Nat.le_trans F.size (by simp; omega)) ?_; intro v6 w6 hown6 hg6 hat6; obtain ⟨A6, c6, rfl, _, _, _, _⟩ := wide_form hown6)
        have f7 := (Fr.refl (fun j => (Value.slice A L.length c).ownBlock = some j) _).grown hg6 fun j hj => .inl hj
        have isr6 := ((isr.alloc (.cells #[.int .i64 v.sec, .int .i64 v.inn, .int .i64 v.out] 45)).alloc (.cells #[.int .i64 v.sec] 3)).fr f7 (wide_is_ne hown isr (by decide))
        have F6 := ((F.alloc (.cells #[.int .i64 v.sec, .int .i64 v.inn, .int .i64 v.out] 45)).alloc (.cells #[.int .i64 v.sec] 3)).grown hg6 fun j hj => .inr (hlo j hj).1
        clear f7 hg6 hat6 hlo q0 q1 q2
        go_wp2_with fail
        go_roundw
        case rel => exact ⟨i + 1, L ++ [v.sec], A6, c6, by omega, by go_num, by rw [List.length_append]; rfl, by rw [HTS.out, HL.out, List.append_assoc], by rw [List.length_append, List.map_append]; exact hown6, isr6, F6⟩
        case measure => simp [intOf]; omega
      · obtain rfl : i = path.length := by omega
        have hL2 : L = over ++ path.map St.sec := by rw [HL.out, List.take_length]
        have HL2 := Lib.hid hL2
        clear hL2 HL
        obtain ⟨r0, r1, r2, r3, r4, r5⟩ := ro_cells (r := ⟨en, ex, a1, k1, path, a2, k2, flank, a3, k3, over, sh⟩) isr
        have hLL : L.length = over.length + path.length := HLL.out
        have HLn := Lib.hid hLL
        have hbound : L.length + flank.length ≤ 17592186044416 := by omega
        clear hLL HLL hbr
        go_wp2_with fail
        clear r0 r1 r2 r3 r4 r5
        go_loopw [6, 40] (fun v6 v40 wr => ∃ (i : Nat) (M : List Int) (A : Option Addr) (c : Nat), i ≤ flank.length ∧ v40 = .int .i64 (i : Nat) ∧ v6 = .slice A M.length c ∧ M = L ++ (flank.take i).map Nd.sec ∧ M.length = L.length + i ∧
            wr.ownsRow w.heap.size 3 1 (.slice A M.length c) M.length (M.map (Value.int .i64)) ∧ Fr (fun _ => False) w wr)
          (fun _ i _ => flank.length - (intOf i).toNat)
        case atStart => exact ⟨0, L, A, c, Nat.zero_le _, rfl, rfl, by simp, rfl, hown, F⟩
        case round =>
          clear hown isr F
          obtain ⟨i, M, A, c, hi, rfl, rfl, hM, hMl, hown, F⟩ := hrel
          have HM := Lib.hid hM
          have hMb : M.length ≤ 17592186044416 := by omega
          have HML := Lib.hid hMl
          by_cases hlp : i < flank.length
          · have hMn : (M.length + 1) * 8 ≤ 140737488355328 := by omega
            clear hM hMl
            obtain ⟨ga, oa, rfl, q0, q1⟩ := rd_nd (h2.fr F fun _ _ => id) hlp
            have hts := take_snoc_map Nd.sec hlp
            have HTS := Lib.hid hts
            clear hts
            generalize flank[i] = v at *
            have hlo := World.ownsRow.lt hown
            go_wp2_with (at_builtin; refine wpList_append_wide _ rfl (.tmp 44) (.tmp 47) 25 rfl w.heap.size 3 i0 _ 1 8 Tryz.underlying25 hi0 hz0 hz1 hz2 rfl (by decide) (.slice A M.length c) M.length (M.map (Value.int .i64)) rfl ((hown.alloc _).alloc _) (some ⟨wr.heap.size + 1, 0, none⟩) 1 1 [.int .i64 v.sec] rfl rfl (lit_rd_at (by simp) _ _) (by simp [Value.oneCell']) (by unfold maxLen; omega) (by omega) (Nat.le_trans F.size (by simp; omega)) ?_; intro v6 w6 hown6 hg6 hat6; obtain ⟨A6, c6, rfl, _, _, _, _⟩ := wide_form hown6)
            have F6 := ((F.alloc (.cells #[.int .i64 v.sec, .int .i64 v.pos] 67)).alloc (.cells #[.int .i64 v.sec] 3)).grown hg6 fun j hj => .inr (hlo j hj).1
            clear hg6 hat6 hlo q0 q1
            go_wp2_with fail
            go_roundw
            case rel => exact ⟨i + 1, M ++ [v.sec], A6, c6, by omega, by go_num, by rw [List.length_append]; rfl, by rw [HTS.out, HM.out, List.append_assoc], by have := HML.out; rw [List.length_append, List.length_singleton]; omega, by rw [List.length_append, List.map_append]; exact hown6, F6⟩
            case measure => simp [intOf]; omega
          · obtain rfl : i = flank.length := by omega
            have hM2 : over ++ (path.map St.sec ++ flank.map Nd.sec) = M := by rw [HM.out, List.take_length, HL2.out, List.append_assoc]
            have HM2 := Lib.hid hM2
            clear hM hMl hM2
            have hlo := World.ownsRow.lt hown
            go_wp2_with fail
            refine (sort_own _ hown (by omega)).mono ?_
            rintro e w4 ⟨rfl, hown4, f4⟩
            go_wp2_with fail
            refine (compact_own _ hown4 (by omega)).mono ?_
            rintro e w5 ⟨rfl, hown5, f5⟩
            go_wp2_with fail
            go_ret
            rw [HM2.out]
            refine ⟨A, c, rfl, hown5, ?_⟩
            have hA : ∀ k, blk A = some k → w.heap.size ≤ k := fun k hk => (hlo k (by rw [Row.own]; exact hk)).1
            exact ⟨f5.os.trans (f4.os.trans F.os), f5.tape.trans (f4.tape.trans F.tape), f5.output.trans (f4.output.trans F.output), Nat.le_trans F.size (Nat.le_trans f4.size f5.size), fun i hi _ =>
              (f5.block i (Nat.lt_of_lt_of_le hi (Nat.le_trans F.size f4.size)) (fun e => by have := hA _ e; omega)).trans ((f4.block i (Nat.lt_of_lt_of_le hi F.size) (fun e => by have := hA _ e; omega)).trans (F.block i hi id))⟩
end Go.Proofs.YtkkohdmneognlaaGreatDoor
/- The contract of Conflict: have two routes a section in common. -/
namespace Go.Proofs.YtkkohdmneognlaaGreatDoor
open Go.RowKit

def Found (w : World) (b : Bool) (e : Ending) (w' : World) : Prop := ∃ n : Int, e = .returned (.tuple #[.int .i64 n, .bool b]) ∧ Fr (fun _ => False) w w'
theorem fr_drewN {w : World} (q : Nat) : Fr (fun _ => False) w (w.drewN q) := (Fr.refl _ _).drewN q
theorem bsearch_any {A : Option Addr} {c : Nat} {l : List Int} (x : Int) (w : World) (h : Rd w A (l.map (Value.int .i64))) (hs : l.Pairwise (· ≤ ·)) (hb : l.length < 4611686018427387904) :
    Calls Tryz.prog 51 #[.slice A l.length c, .int .i64 x] w (Found w (l.contains x)) := by
  rcases Nat.eq_zero_or_pos l.length with h0 | h0
  · obtain rfl : l = [] := List.eq_nil_of_length_eq_zero h0
    exact (Tryz.slices_BinarySearch_int_empty A c x w).mono fun e w' ⟨he, hw⟩ => ⟨0, he, hw ▸ Fr.refl _ _⟩
  · obtain ⟨b, o, rfl, _, _⟩ := h (by simpa using h0)
    refine (Tryz.slices_BinarySearch_int b o l.length c l x w (Nat.le_refl _) hb (rd_getD h) (by rw [List.take_length]; exact hs)).mono ?_
    rintro e w' ⟨rfl, q, rfl⟩
    rw [List.take_length]
    exact ⟨_, rfl, fr_drewN q⟩

theorem clos_any {A : Option Addr} {c b : Nat} {l : List Int} (x : Int) (w : World) (hb : Is w b 25 #[.slice A l.length c]) (h : Rd w A (l.map (Value.int .i64))) (hs : l.Pairwise (· ≤ ·)) (hl : l.length < 4611686018427387904) :
    Calls Tryz.prog 50 #[.int .i64 x, .pointer (some ⟨b, 0, none⟩)] w fun e w' => e = .returned (.bool (l.contains x)) ∧ Fr (fun _ => False) w w' := by
  have K := fun W (h : Rd W A (l.map (Value.int .i64))) => bsearch_any (c := c) x W h hs hl
  have k0 := hb.cell 0
  generalize l.contains x = B at *
  go_enter Tryz.func50, Tryz.ntmps50
  go_wp2_with fail
  refine (K _ h).mono ?_
  rintro e w1 ⟨n, rfl, f1⟩
  go_wp2_with fail
  go_ret
  exact ⟨rfl, f1⟩

/-- whether one of a list is in another -/
def meetB (a b : List Int) : Bool := a.any fun x => b.contains x
/-- the first place of the one at which the other's stands; -1, if there is none -/
def firstAt (b : List Int) : List Int → Nat → Int
  | [], _ => -1
  | x :: r, k => if b.contains x = true then k else firstAt b r (k + 1)
theorem firstAt_ge (b : List Int) : ∀ (a : List Int) (k : Nat), decide (0 ≤ firstAt b a k) = meetB a b
  | [], _ => rfl
  | x :: r, k => by
    unfold firstAt meetB
    rw [List.any_cons]
    by_cases h : b.contains x = true
    · rw [if_pos h, h, Bool.true_or]
      simp
    · have hf : b.contains x = false := by simpa using h
      rw [if_neg h, hf, Bool.false_or]
      exact firstAt_ge b r (k + 1)

set_option maxHeartbeats 1000000 in
theorem indexf_any {A A2 : Option Addr} {c c2 b : Nat} {a l : List Int} (w : World) (ha : Rd w A2 (a.map (Value.int .i64))) (hal : a.length ≤ 9223372036854775807) (hb : Is w b 25 #[.slice A l.length c]) (h : Rd w A (l.map (Value.int .i64))) (hs : l.Pairwise (· ≤ ·)) (hl : l.length < 4611686018427387904) :
    Calls Tryz.prog 98 #[.slice A2 a.length c2, .func (.func 50) #[] #[.pointer (some ⟨b, 0, none⟩)]] w fun e w' => e = .returned (.int .i64 (firstAt l a 0)) ∧ Fr (fun _ => False) w w' := by
  have K := fun x W (hb : Is W b 25 #[.slice A l.length c]) (h : Rd W A (l.map (Value.int .i64))) => clos_any x W hb h hs hl
  generalize hT : firstAt l a 0 = T
  have HT := Lib.hid hT
  clear hT
  go_enter Tryz.func98, Tryz.ntmps98
  go_wp2_with fail
  go_loopw [8] (fun i wr => ∃ k : Nat, k ≤ a.length ∧ i = .int .i64 (k : Nat) ∧ firstAt l (a.drop k) k = T ∧ Fr (fun _ => False) w wr) (fun i _ => a.length - (intOf i).toNat)
  case atStart => exact ⟨0, Nat.zero_le _, rfl, HT.out, Fr.refl _ _⟩
  case round =>
    clear HT
    obtain ⟨k, hk, rfl, hT, fr⟩ := hrel
    by_cases hlt : k < a.length
    · obtain ⟨g, o, rfl, q0⟩ := rd_int (ha.fr fr fun _ _ => id) hlt
      have KX := K a[k]
      rw [List.drop_eq_getElem_cons hlt, firstAt] at hT
      generalize a[k] = x at *
      cases hx : l.contains x
      · rw [hx] at hT KX
        rw [if_neg (by decide)] at hT
        have HT := Lib.hid hT
        clear hT hx K
        go_wp2_with fail
        refine (KX _ (hb.fr fr id) (h.fr fr fun _ _ => id)).mono ?_
        rintro e w1 ⟨rfl, f1⟩
        go_wp2_with fail
        go_roundw
        case rel => exact ⟨k + 1, by omega, by go_num, HT.out, fr_nil fr f1⟩
        case measure => simp [intOf]; omega
      · rw [hx] at hT KX
        rw [if_pos rfl] at hT
        subst hT
        clear hx K
        go_wp2_with fail
        refine (KX _ (hb.fr fr id) (h.fr fr fun _ _ => id)).mono ?_
        rintro e w1 ⟨rfl, f1⟩
        go_wp2_with fail
        go_ret
        exact ⟨rfl, fr_nil fr f1⟩
    · rw [List.drop_eq_nil_of_le (by omega), firstAt] at hT
      subst hT
      clear K
      go_wp2_with fail
      go_ret
      exact ⟨rfl, fr⟩
theorem containsf_any {A A2 : Option Addr} {c c2 b : Nat} {a l : List Int} (w : World) (ha : Rd w A2 (a.map (Value.int .i64))) (hal : a.length ≤ 9223372036854775807) (hb : Is w b 25 #[.slice A l.length c]) (h : Rd w A (l.map (Value.int .i64))) (hs : l.Pairwise (· ≤ ·)) (hl : l.length < 4611686018427387904) :
    Calls Tryz.prog 49 #[.slice A2 a.length c2, .func (.func 50) #[] #[.pointer (some ⟨b, 0, none⟩)]] w fun e w' => e = .returned (.bool (meetB a l)) ∧ Fr (fun _ => False) w w' := by
  have K := indexf_any (c2 := c2) w ha hal hb h hs hl
  rw [← firstAt_ge l a 0]
  generalize firstAt l a 0 = T at *
  go_enter Tryz.func49, Tryz.ntmps49
  go_wp2_with fail
  refine K.mono ?_
  rintro e w1 ⟨rfl, f1⟩
  go_wp2_with fail
  go_ret
  exact ⟨rfl, f1⟩

def clashM (C : Cm) (a b : Int) : Bool := meetB (locksR C a) (locksR C b)
theorem locksR_short (C : Cm) (k : Int) (hb : ∀ r ∈ C.rs, (r.over.length + (r.path.length + r.flank.length)) * 8 ≤ 140737488355328) : (locksR C k).length ≤ 17592186044416 := by
  unfold locksR
  split
  · rename_i hs
    obtain ⟨j, rfl, hlt⟩ := isSecB_true hs
    rw [Int.toNat_natCast, rs_at hlt]
    have h1 := hb _ (List.getElem_mem hlt)
    have h2 := locksM_short C.rs[j].rt
    have h3 : (rawLocks C.rs[j].rt).length = C.rs[j].over.length + (C.rs[j].path.length + C.rs[j].flank.length) := by
      unfold rawLocks Ro.rt
      simp
    omega
  · simp
theorem locksR_le (C : Cm) (k : Int) : (locksR C k).Pairwise (· ≤ ·) := by
  unfold locksR
  split
  · exact (locksM_lt _).imp fun h => by omega
  · exact List.Pairwise.nil

set_option maxHeartbeats 1000000 in
theorem clash_any (C : Cm) (a b : Int) (w : World) (h : C.Ok w) (hb : ∀ r ∈ C.rs, (r.over.length + (r.path.length + r.flank.length)) * 8 ≤ 140737488355328) :
    Calls Tryz.prog 16 #[C.val, .int .i64 a, .int .i64 b] w fun e w' => e = .returned (.bool (clashM C a b)) ∧ Fr (fun _ => False) w w' := by
  have K1 := fun W (f : Fr (fun _ => False) w W) => locks_any C b W (h.fr f) hb
  have K2 := fun W (f : Fr (fun _ => False) w W) => locks_any C a W (h.fr f) hb
  have s1 := locksR_short C a hb
  have s2 := locksR_short C b hb
  have p2 := locksR_le C b
  unfold clashM
  generalize locksR C a = la at *
  generalize locksR C b = lb at *
  unfold Cm.val Cm.arr at *
  go_enter Tryz.func16, Tryz.ntmps16
  go_wp2_with fail
  refine (K1 _ ((Fr.refl _ _).alloc _)).mono ?_
  rintro e w1 ⟨A1, c1, rfl, hown1, f1⟩
  have isc : Is w1 w.heap.size 30 C.arr := (Is.new w _ _).fr f1 id
  have F := fr_nil ((Fr.refl (fun _ => False) w).alloc (.cells C.arr 30)) f1
  obtain ⟨p0, p1, p2', p3, p4, p5, p6, p7, p8⟩ := plan_cells isc
  have r1 := wide_rd hown1
  have isc2 := isc.alloc (.cells #[.slice A1 lb.length c1] 25)
  obtain ⟨q0, q1, q2, q3, q4, q5, q6, q7, q8⟩ := plan_cells isc2
  clear p0 p1 p2' p3 p4 p5 p6 p7 p8 K1
  go_wp2_with fail
  refine (K2 _ (F.alloc _)).mono ?_
  rintro e w2 ⟨A2, c2, rfl, hown2, f2⟩
  have isb : Is w2 w1.heap.size 25 #[.slice A1 lb.length c1] := (Is.new w1 _ _).fr f2 id
  have r12 : Rd w2 A1 (lb.map (Value.int .i64)) := r1.fr (fr_nil ((Fr.refl (fun _ => False) w1).alloc (.cells #[.slice A1 lb.length c1] 25)) f2) fun _ _ => id
  have F2 := fr_nil (F.alloc (.cells #[.slice A1 lb.length c1] 25)) f2
  have r2 := wide_rd hown2
  clear q0 q1 q2 q3 q4 q5 q6 q7 q8 K2
  go_wp2_with fail
  refine (containsf_any (c2 := c2) w2 r2 (by omega) isb r12 p2 (by omega)).mono ?_
  rintro e w3 ⟨rfl, f3⟩
  go_wp2_with fail
  go_ret
  exact ⟨rfl, fr_nil F2 f3⟩
end Go.Proofs.YtkkohdmneognlaaGreatDoor
/- The library's Index, Contains and Equal at these texts' types. -/
namespace Go.Proofs.YtkkohdmneognlaaGreatDoor
open Go.RowKit

/-- the first place of a signal; -1, if there is none -/
def sgFirst (v : Sg) : List Sg → Nat → Int
  | [], _ => -1
  | x :: r, k => if x = v then k else sgFirst v r (k + 1)
theorem sgFirst_ge (v : Sg) : ∀ (l : List Sg) (k : Nat), decide (0 ≤ sgFirst v l k) = l.contains v
  | [], _ => rfl
  | x :: r, k => by
    unfold sgFirst
    rw [List.contains_cons]
    by_cases h : x = v
    · subst h
      rw [if_pos rfl]
      simp
    · have hf : (v == x) = false := by simpa using fun e => h e.symm
      rw [if_neg h, hf, Bool.false_or]
      exact sgFirst_ge v r (k + 1)
theorem sg_ways (x v : Sg) : (x = v) ∨ (x ≠ v ∧ ¬ v.sec = x.sec) ∨ (x ≠ v ∧ v.sec = x.sec ∧ ¬ v.fin = x.fin) := by
  obtain ⟨a, b⟩ := x
  obtain ⟨c, d⟩ := v
  simp only [ne_eq, Sg.mk.injEq]
  omega

set_option maxHeartbeats 1000000 in
theorem sgindex_any {A : Option Addr} {c : Nat} {l : List Sg} (v : Sg) (w : World) (h : Rd w A (cellsG l)) (hl : l.length ≤ 9223372036854775807) :
    Calls Tryz.prog 121 #[.slice A l.length c, .agg #[.int .i64 v.sec, .int .i64 v.fin]] w fun e w' => e = .returned (.int .i64 (sgFirst v l 0)) ∧ Fr (fun _ => False) w w' := by
  generalize hT : sgFirst v l 0 = T
  have HT := Lib.hid hT
  clear hT
  go_enter Tryz.func121, Tryz.ntmps121
  go_wp2_with fail
  go_loopw [8] (fun i wr => ∃ k : Nat, k ≤ l.length ∧ i = .int .i64 (k : Nat) ∧ sgFirst v (l.drop k) k = T ∧ Is wr w.heap.size 56 #[.int .i64 v.sec, .int .i64 v.fin] ∧ Fr (fun _ => False) w wr) (fun i _ => l.length - (intOf i).toNat)
  case atStart => exact ⟨0, Nat.zero_le _, rfl, HT.out, Is.new _ _ _, (Fr.refl _ _).alloc _⟩
  case round =>
    clear HT
    obtain ⟨k, hk, rfl, hT, isv, fr⟩ := hrel
    by_cases hlt : k < l.length
    · obtain ⟨g, o, rfl, q0, q1⟩ := rd_sg (h.fr fr fun _ _ => id) hlt
      have v0 := isv.cell 0
      have v1 := isv.cell 1
      rw [List.drop_eq_getElem_cons hlt, sgFirst] at hT
      generalize l[k] = x at *
      rcases sg_ways x v with hx | ⟨hx, h1⟩ | ⟨hx, h1, h2⟩
      · subst hx
        rw [if_pos rfl] at hT
        subst hT
        go_wp2_with fail
        go_quiet (fail)
        go_wp2_with fail
        go_ret
        exact ⟨rfl, fr.drewN _⟩
      · rw [if_neg hx] at hT
        have HT := Lib.hid hT
        clear hT hx
        obtain ⟨xs, xf⟩ := x
        obtain ⟨vs, vf⟩ := v
        simp only at *
        go_wp2_with fail
        go_quiet (fail)
        go_wp2_with fail
        go_roundw
        case rel => exact ⟨k + 1, by omega, by go_num, HT.out, isv.fr (fr_drewN _) id, fr.drewN _⟩
        case measure => simp [intOf]; omega
      · rw [if_neg hx] at hT
        have HT := Lib.hid hT
        clear hT hx
        obtain ⟨xs, xf⟩ := x
        obtain ⟨vs, vf⟩ := v
        simp only at *
        subst h1
        go_wp2_with fail
        go_quiet (fail)
        go_wp2_with fail
        go_roundw
        case rel => exact ⟨k + 1, by omega, by go_num, HT.out, isv.fr (fr_drewN _) id, fr.drewN _⟩
        case measure => simp [intOf]; omega
    · rw [List.drop_eq_nil_of_le (by omega), sgFirst] at hT
      subst hT
      go_wp2_with fail
      go_ret
      exact ⟨rfl, fr⟩
theorem sgcontains_any {A : Option Addr} {c : Nat} {l : List Sg} (v : Sg) (w : World) (h : Rd w A (cellsG l)) (hl : l.length ≤ 9223372036854775807) :
    Calls Tryz.prog 88 #[.slice A l.length c, .agg #[.int .i64 v.sec, .int .i64 v.fin]] w fun e w' => e = .returned (.bool (l.contains v)) ∧ Fr (fun _ => False) w w' := by
  have K := fun W (f : Fr (fun _ => False) w W) => sgindex_any (c := c) v W (h.fr f fun _ _ => id) hl
  rw [← sgFirst_ge v l 0]
  generalize sgFirst v l 0 = T at *
  go_enter Tryz.func88, Tryz.ntmps88
  go_wp2_with fail
  refine (K _ ((Fr.refl _ _).alloc _)).mono ?_
  rintro e w1 ⟨rfl, f1⟩
  go_wp2_with fail
  go_ret
  exact ⟨rfl, fr_nil ((Fr.refl _ _).alloc _) f1⟩

theorem icontains_any {A : Option Addr} {c : Nat} {l : List Int} (x : Int) (w : World) (h : Rd w A (l.map (Value.int .i64))) (hl : l.length ≤ 9223372036854775807) :
    Calls Tryz.prog 89 #[.slice A l.length c, .int .i64 x] w fun e w' => e = .returned (.bool (l.contains x)) ∧ w = w' := by
  rcases Nat.eq_zero_or_pos l.length with h0 | h0
  · obtain rfl : l = [] := List.eq_nil_of_length_eq_zero h0
    exact (Tryz.slices_Contains_int_empty A c x w).mono fun e w' ⟨he, hw⟩ => ⟨he, hw.symm⟩
  · obtain ⟨b, o, rfl, _, _⟩ := h (by simpa using h0)
    refine (Tryz.slices_Contains_int b o l.length c l x w (Nat.le_refl _) hl (rd_getD h)).mono ?_
    rintro e w' ⟨he, hw⟩
    rw [List.take_length] at he
    exact ⟨he, hw.symm⟩
theorem iequal_any {A A' : Option Addr} {c c' : Nat} {a b : List Int} (w : World) (h : Rd w A (a.map (Value.int .i64))) (h' : Rd w A' (b.map (Value.int .i64))) (hl : a.length ≤ 9223372036854775807) (hl' : b.length ≤ 9223372036854775807) :
    Calls Tryz.prog 92 #[.slice A a.length c, .slice A' b.length c'] w fun e w' => e = .returned (.bool (decide (a = b))) ∧ Fr (fun _ => False) w w' := by
  by_cases hn : a.length = b.length
  · rcases Nat.eq_zero_or_pos a.length with h0 | h0
    · obtain rfl : a = [] := List.eq_nil_of_length_eq_zero h0
      obtain rfl : b = [] := List.eq_nil_of_length_eq_zero (by rw [← hn]; rfl)
      exact (Tryz.slices_Equal_int_empty A A' c 0 c' w (by omega)).mono fun e w' ⟨he, hw⟩ => ⟨by rw [he]; rfl, hw ▸ Fr.refl _ _⟩
    · obtain ⟨b1, o1, rfl, _, _⟩ := h (by simpa using h0)
      obtain ⟨b2, o2, rfl, _, _⟩ := h' (by rw [List.length_map, ← hn]; exact h0)
      refine (Tryz.slices_Equal_int b1 o1 a.length c b2 o2 b.length c' a b w (Nat.le_refl _) (Nat.le_refl _) hl hl' (rd_getD h) (rd_getD h')).mono ?_
      rintro e w' ⟨he, q, rfl⟩
      rw [List.take_length, List.take_length] at he
      refine ⟨by rw [he]; congr 2; by_cases e : a = b <;> simp [e], fr_drewN q⟩
  · refine (Tryz.slices_Equal_int_lens A A' a.length c b.length c' w hn).mono ?_
    rintro e w' ⟨he, hw⟩
    refine ⟨?_, hw ▸ Fr.refl _ _⟩
    rw [he, decide_eq_false (fun e => hn (by rw [e]))]
theorem nd_ways (x v : Nd) : (x = v) ∨ (x ≠ v ∧ ¬ x.sec = v.sec) ∨ (x ≠ v ∧ x.sec = v.sec ∧ ¬ x.pos = v.pos) := by
  obtain ⟨a, b⟩ := x
  obtain ⟨c, d⟩ := v
  simp only [ne_eq, Nd.mk.injEq]
  omega
set_option maxHeartbeats 1000000 in
theorem nequal_any {A A' : Option Addr} {c c' : Nat} {a b : List Nd} (w : World) (h : Rd w A (cellsN a)) (h' : Rd w A' (cellsN b)) (hl : b.length ≤ 9223372036854775807) :
    Calls Tryz.prog 91 #[.slice A a.length c, .slice A' b.length c'] w fun e w' => e = .returned (.bool (decide (a = b))) ∧ Fr (fun _ => False) w w' := by
  by_cases hn : a.length = b.length
  · generalize hT : decide (a = b) = T
    have HT := Lib.hid hT
    have HN := Lib.hid hn
    clear hT
    rw [hn]
    have hn1 : ((b.length : Int) != (b.length : Int)) = false := by simp
    clear hn
    go_enter Tryz.func91, Tryz.ntmps91
    go_wp2_with fail
    clear hn1
    go_loopw [13] (fun i wr => ∃ k : Nat, k ≤ b.length ∧ i = .int .i64 (k : Nat) ∧ decide (a.drop k = b.drop k) = T ∧ Fr (fun _ => False) w wr) (fun i _ => b.length - (intOf i).toNat)
    case atStart => exact ⟨0, Nat.zero_le _, rfl, HT.out, Fr.refl _ _⟩
    case round =>
      clear HT
      obtain ⟨k, hk, rfl, hT, fr⟩ := hrel
      by_cases hlt : k < b.length
      · have hlt2 : k < a.length := by have := HN.out; omega
        obtain ⟨g, o, rfl, q0, q1⟩ := rd_nd (h.fr fr fun _ _ => id) hlt2
        obtain ⟨g', o', rfl, p0, p1⟩ := rd_nd (h'.fr fr fun _ _ => id) hlt
        rw [List.drop_eq_getElem_cons hlt, List.drop_eq_getElem_cons hlt2] at hT
        generalize a[k] = x at *
        generalize b[k] = v at *
        rcases nd_ways x v with hx | ⟨hx, h1⟩ | ⟨hx, h1, h2⟩
        · subst hx
          have hT2 : decide (a.drop (k + 1) = b.drop (k + 1)) = T := by rw [← hT]; simp
          have HT := Lib.hid hT2
          clear hT hT2
          go_wp2_with fail
          go_quiet (fail)
          go_wp2_with fail
          go_roundw
          case rel => exact ⟨k + 1, by omega, by go_num, HT.out, fr.drewN _⟩
          case measure => simp [intOf]; omega
        · have hT2 : T = false := by rw [← hT]; simp [hx]
          subst hT2
          obtain ⟨xs, xf⟩ := x
          obtain ⟨vs, vf⟩ := v
          simp only at *
          clear hT hx hlt2
          go_wp2_with fail
          go_quiet (fail)
          go_wp2_with fail
          go_ret
          exact ⟨rfl, fr.drewN _⟩
        · have hT2 : T = false := by rw [← hT]; simp [hx]
          subst hT2
          obtain ⟨xs, xf⟩ := x
          obtain ⟨vs, vf⟩ := v
          simp only at *
          subst h1
          clear hT hx hlt2
          go_wp2_with fail
          go_quiet (fail)
          go_wp2_with fail
          go_ret
          exact ⟨rfl, fr.drewN _⟩
      · rw [List.drop_eq_nil_of_le (by have := HN.out; omega), List.drop_eq_nil_of_le (by omega)] at hT
        subst hT
        go_wp2_with fail
        go_ret
        exact ⟨rfl, fr⟩
  · have e0 : decide (a = b) = false := decide_eq_false (fun e => hn (by rw [e]))
    rw [e0]
    have hn1 : ((a.length : Int) != (b.length : Int)) = true := by rw [bne_iff_ne]; omega
    clear e0
    go_enter Tryz.func91, Tryz.ntmps91
    go_wp2_with fail
    go_ret
    exact ⟨rfl, Fr.refl _ _⟩
end Go.Proofs.YtkkohdmneognlaaGreatDoor

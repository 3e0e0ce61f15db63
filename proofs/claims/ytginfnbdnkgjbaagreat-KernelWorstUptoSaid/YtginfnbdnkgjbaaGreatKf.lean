/- Contracts and plain mathematics of earlier stages: Over, Lock2. -/
import Derived.Test.YtginfnbdnkgjbaaGreatKe
import Derived.Deep.RegionHeld3
namespace Go.Proofs.YtginfnbdnkgjbaaGreat
open Go.RowKit

theorem over_split (l : List Sec) (js : List Jo) (sg : List Sg) (r : Rt) : overOk l js sg r = (!r.shunt && (beyOk sg js r.exit && (isSecB l.length (beyS sg js r.exit) && (decide (lineOf l (beyS sg js r.exit).toNat = 0) && !seenAt (barM l.length (apM sg r.entry) r.path) (beyS sg js r.exit).toNat)))) := by
  unfold overOk beyOk beyS
  cases isSecB sg.length r.exit
  · simp
  · simp
theorem overM_eq (l : List Sec) (js : List Jo) (sg : List Sg) (r : Rt) : overM l js sg r = if overOk l js sg r = true then [beyS sg js r.exit] else [] := by
  unfold overM
  by_cases h : overOk l js sg r = true
  · rw [if_pos h, if_pos h]
    unfold beyS
    unfold overOk at h
    simp only [Bool.and_eq_true] at h
    rw [if_pos h.2.1]
  · rw [if_neg h, if_neg h]

set_option maxHeartbeats 4000000 in
theorem overlap_any (C : Cm) (r : Ro) (w : World) (h : C.Ok w) (hr : r.Ok w) :
    Calls Tryz.prog 186 #[C.val, r.val] w (Nums w (overM C.l C.js C.sg r.rt)) := by
  have KB := fun W (f : Fr (fun _ => False) w W) => beyond_any C r.exit W (h.fr f)
  have KS := fun W => hass_any (A := C.A1) (c := C.c1) (n := C.l.length) (beyS C.sg C.js r.exit) W
  have b1 := hr.b1
  have KA := fun W (f : Fr (fun _ => False) w W) => approach_any C r W (h.fr f)
  have KR := fun ap W (f : Fr (fun _ => False) w W) => barred_any C ap (c := r.c1) r.path W (h.fr f) (hr.path.fr f fun _ _ => id) (by omega)
  rw [overM_eq, over_split]
  clear b1
  unfold Cm.val Cm.arr Ro.val at *
  have e1 : r.rt.shunt = r.shunt := rfl
  have e2 : r.rt.exit = r.exit := rfl
  have e3 : r.rt.entry = r.entry := rfl
  have e4 : r.rt.path = r.path := rfl
  rw [e1, e2, e3, e4]
  clear e1 e2 e3 e4
  cases hsh : r.shunt
  · rw [hsh] at KA
    rw [Bool.not_false, Bool.true_and]
    generalize hQ : beyS C.sg C.js r.exit = Q at *
    generalize beyE C.sg C.js r.exit = E at *
    clear hQ
    have pre : ∀ w1 : World, Fr (fun _ => False) (((w.alloc (.cells #[.slice C.A1 C.l.length C.c1, .slice C.A2 C.js.length C.c2, .slice C.A3 C.sg.length C.c3, .slice C.A4 C.cr.length C.c4, .slice C.A5 C.rs.length C.c5, .int .i64 C.tm.age, .int .i64 C.tm.brake, .int .i64 C.tm.hold, .int .i64 C.tm.budget] 30)).alloc (.cells #[.int .i64 r.entry, .int .i64 r.exit, .slice r.a1 r.path.length r.c1, .slice r.a2 r.flank.length r.c2, .slice r.a3 r.over.length r.c3, .bool false] 74)).alloc (.cells #[.slice C.A1 C.l.length C.c1, .slice C.A2 C.js.length C.c2, .slice C.A3 C.sg.length C.c3, .slice C.A4 C.cr.length C.c4, .slice C.A5 C.rs.length C.c5, .int .i64 C.tm.age, .int .i64 C.tm.brake, .int .i64 C.tm.hold, .int .i64 C.tm.budget] 154)) w1 →
        Is w1 (w.heap.size + 1) 74 #[.int .i64 r.entry, .int .i64 r.exit, .slice r.a1 r.path.length r.c1, .slice r.a2 r.flank.length r.c2, .slice r.a3 r.over.length r.c3, .bool false] ∧ Is w1 (w.heap.size + 2) 154 C.arr ∧ Fr (fun _ => False) w w1 := fun w1 f1 =>
      ⟨((is_new_at (by simp) _ _).alloc _).fr f1 id, (is_new_at (by simp) _ _).fr f1 id, fr_nil ((((Fr.refl _ _).alloc _).alloc _).alloc _) f1⟩
    cases hO : beyOk C.sg C.js r.exit
    · rw [hO] at KB
      rw [Bool.false_and, if_neg (by decide)]
      clear hO KS KA KR
      go_enter Tryz.func186, Tryz.ntmps186
      go_wp2_with fail
      refine (KB _ ((((Fr.refl _ _).alloc _).alloc _).alloc _)).mono ?_
      clear KB
      rintro x w1 ⟨rfl, f1⟩
      obtain ⟨isr, isp, F⟩ := pre w1 f1
      clear pre f1
      go_wp2_with fail
      go_ret
      exact ⟨none, 0, rfl, World.ownsRow_nil _ _ _ _, F⟩
    · rw [hO] at KB
      rw [Bool.true_and]
      clear hO
      cases hs : isSecB C.l.length Q
      · rw [hs] at KS
        rw [Bool.false_and, if_neg (by decide)]
        clear hs KA KR
        go_enter Tryz.func186, Tryz.ntmps186
        go_wp2_with fail
        refine (KB _ ((((Fr.refl _ _).alloc _).alloc _).alloc _)).mono ?_
        clear KB
        rintro x w1 ⟨rfl, f1⟩
        obtain ⟨isr, isp, F⟩ := pre w1 f1
        have p0 := (plan_cells isp).1
        clear pre f1
        go_wp2_with fail
        refine (KS _).mono ?_
        rintro x w2 ⟨rfl, rfl⟩
        go_wp2_with fail
        go_ret
        exact ⟨none, 0, rfl, World.ownsRow_nil _ _ _ _, F⟩
      · rw [hs] at KS
        obtain ⟨k, rfl, hk⟩ := isSecB_true hs
        rw [Bool.true_and, Int.toNat_natCast, lineOf_at hk]
        obtain ⟨g, o, hA, _, _, s2⟩ := rd_sec h.secs hk
        have hg := World.block_lt_of_cell? _ ⟨g, o + k * 3 + 2, none⟩ s2
        generalize C.l[k].line = ln at *
        by_cases hl : ln = 0
        · subst hl
          rw [show decide ((0 : Int) = 0) = true from rfl, Bool.true_and]
          have hbl := barM_length C.l.length (apM C.sg r.entry) r.path
          have KR := KR (apM C.sg r.entry)
          generalize barM C.l.length (apM C.sg r.entry) r.path = bm at *
          generalize apM C.sg r.entry = ap at *
          have k1 : (0 : Int) ≤ (k : Int) := by omega
          have k2 : (k : Int) < (C.l.length : Int) := by omega
          cases hsn : seenAt bm k
          · have hsz := h.b1
            have HA := Lib.hid hA
            have HBL := Lib.hid hbl
            have S3 : ∀ (Wx : World) (b : Nat), Wx.heap[b]? = some (.cells (cellsB bm) 4 (0, 0)) → Wx.cell? ⟨b, k, none⟩ = some (.bool false) := fun Wx b hb => ((show Is Wx b 4 (cellsB bm) from hb).cell k).trans ((cellsB_at (by omega)).trans (by rw [hsn]))
            have HS3 := Lib.hid S3
            clear S3
            rw [if_pos (show (!false) = true from rfl)]
            clear hs hA hbl hsn h hr
            go_enter Tryz.func186, Tryz.ntmps186
            go_wp2_with fail
            refine (KB _ ((((Fr.refl _ _).alloc _).alloc _).alloc _)).mono ?_
            clear KB
            rintro x w1 ⟨rfl, f1⟩
            obtain ⟨isr, isp, F⟩ := pre w1 f1
            have p0 := (plan_cells isp).1
            have s2' : w1.cell? ⟨g, o + k * 3 + 2, none⟩ = some (.int .i64 0) := (F.cell (p := ⟨g, o + k * 3 + 2, none⟩) hg id).trans s2
            rw [HA.out] at p0 KS
            clear pre f1 s2
            go_wp2_with fail
            refine (KS _).mono ?_
            rintro x w2 ⟨rfl, rfl⟩
            go_upto_region 7 with (fail)
            clear s2' p0 KS
            refine wp_region_held_drew (S := fun Wx => (Wx.cell? ⟨w.heap.size + 2, 0, none⟩ = some (.slice C.A1 C.l.length C.c1) ∧ Wx.cell? ⟨w.heap.size + 2, 1, none⟩ = some (.slice C.A2 C.js.length C.c2) ∧ Wx.cell? ⟨w.heap.size + 2, 2, none⟩ = some (.slice C.A3 C.sg.length C.c3) ∧ Wx.cell? ⟨w.heap.size + 2, 3, none⟩ = some (.slice C.A4 C.cr.length C.c4) ∧ Wx.cell? ⟨w.heap.size + 2, 4, none⟩ = some (.slice C.A5 C.rs.length C.c5) ∧ Wx.cell? ⟨w.heap.size + 2, 5, none⟩ = some (.int .i64 C.tm.age) ∧ Wx.cell? ⟨w.heap.size + 2, 6, none⟩ = some (.int .i64 C.tm.brake) ∧ Wx.cell? ⟨w.heap.size + 2, 7, none⟩ = some (.int .i64 C.tm.hold) ∧ Wx.cell? ⟨w.heap.size + 2, 8, none⟩ = some (.int .i64 C.tm.budget)) ∧ (Wx.cell? ⟨w.heap.size + 1, 0, none⟩ = some (.int .i64 r.entry) ∧ Wx.cell? ⟨w.heap.size + 1, 1, none⟩ = some (.int .i64 r.exit) ∧ Wx.cell? ⟨w.heap.size + 1, 2, none⟩ = some (.slice r.a1 r.path.length r.c1) ∧ Wx.cell? ⟨w.heap.size + 1, 3, none⟩ = some (.slice r.a2 r.flank.length r.c2) ∧ Wx.cell? ⟨w.heap.size + 1, 4, none⟩ = some (.slice r.a3 r.over.length r.c3) ∧ Wx.cell? ⟨w.heap.size + 1, 5, none⟩ = some (.bool false))) (by kernel_rfl) ⟨plan_cells isp, ro_cells isr⟩ (fun hHeld => ?_)
            refine wpAnyH_take (i := 0) (v := ?_) rfl (by kernel_rfl) (by kernel_rfl) (by kernel_rfl) (fun _ _ _ h => h) (Or.inl ⟨by rfl, ?_⟩) (by assumption) ?_
            rotate_left
            · intro Wx hSw
              try dsimp only at hSw
              go_simp
              try with_reducible rfl
            try simp only [Act.put]
            refine wpAnyH_take (i := 1) (v := ?_) rfl (by kernel_rfl) (by kernel_rfl) (by kernel_rfl) (fun _ _ _ h => h) (Or.inl ⟨by rfl, ?_⟩) (by assumption) ?_
            rotate_left
            · intro Wx hSw
              try dsimp only at hSw
              go_simp
              try with_reducible rfl
            try simp only [Act.put]
            refine wpAnyH_take (i := 2) (v := ?_) rfl (by kernel_rfl) (by kernel_rfl) (by kernel_rfl) (fun _ _ _ h => h) (Or.inl ⟨by rfl, ?_⟩) (by assumption) ?_
            rotate_left
            · intro Wx hSw
              try dsimp only at hSw
              go_simp
              try with_reducible rfl
            try simp only [Act.put]
            refine wpAnyH_take (i := 4) (v := ?_) rfl (by kernel_rfl) (by kernel_rfl) (by kernel_rfl) (fun _ _ _ h => h) (Or.inl ⟨by rfl, ?_⟩) (by assumption) ?_
            rotate_left
            · intro Wx hSw
              try dsimp only at hSw
              go_simp
              try with_reducible rfl
            try simp only [Act.put]
            refine wpAnyH_take (i := 5) (v := ?_) rfl (by kernel_rfl) (by kernel_rfl) (by kernel_rfl) (fun _ _ _ h => h) (Or.inl ⟨by rfl, ?_⟩) (by assumption) ?_
            rotate_left
            · intro Wx hSw
              try dsimp only at hSw
              go_simp
              try with_reducible rfl
            try simp only [Act.put]
            refine wpAnyH_take (i := 7) (v := ?_) rfl (by kernel_rfl) (by kernel_rfl) (by kernel_rfl) (fun _ _ _ h => h) (Or.inl ⟨by rfl, ?_⟩) (by assumption) ?_
            rotate_left
            · intro Wx hSw
              try dsimp only at hSw
              go_simp
              try with_reducible rfl
            try simp only [Act.put]
            refine wpAnyH_ready (rs := [3]) (by kernel_rfl) (by simp) (AllReadyH.cons rfl (fun K hK => ?_) AllReadyH.nil)
            go_simp
            refine (KA _ (by first | exact F.drew | exact F)).mono ?_
            rintro e w4 ⟨rfl, f4⟩
            have isr4 := isr.drew.fr f4 id
            have isp4 := isp.drew.fr f4 id
            have F4 := fr_nil F.drew f4
            go_simp
            refine hK.out _ _ ⟨plan_cells isp4, ro_cells isr4⟩ (fun hHeld => ?_)
            clear hK K
            refine wpAnyH_ready (rs := [6]) (by kernel_rfl) (by simp) (AllReadyH.cons rfl (fun K hK => ?_) AllReadyH.nil)
            go_simp
            refine (KR _ F4).mono ?_
            rintro e w5 ⟨gb, rfl, hgb, isb, f5⟩
            have isr5 := isr4.fr f5 id
            have isp5 := isp4.fr f5 id
            have F5 := fr_nil F4 f5
            have b0 := HS3.out _ gb isb
            go_simp
            refine hK.out _ _ ⟨plan_cells isp5, ro_cells isr5⟩ (fun hHeld => ?_)
            clear hK K
            refine wpAnyH_take (i := 8) (v := ?_) rfl (by kernel_rfl) (by kernel_rfl) (by kernel_rfl) (fun _ _ _ h => h) (Or.inl ⟨by rfl, ?_⟩) (by assumption) ?_
            rotate_left
            · intro Wx hSw
              try dsimp only at hSw
              go_simp
              try with_reducible rfl
            refine wpAnyH_ready (rs := [9]) (by kernel_rfl) (by simp) (AllReadyH.cons rfl (fun K hK => ?_) AllReadyH.nil)
            go_simp
            refine hK.out _ _ ⟨plan_cells isp5, ro_cells isr5⟩ (fun hHeld => ?_)
            clear hK K
            refine wpAnyH_done (by kernel_rfl) ?_ _
            go_wp2_with fail
            go_ret
            exact ⟨_, _, rfl, own_one _ _ _ _ F5.size, F5.alloc _⟩
          · have hsz := h.b1
            have HA := Lib.hid hA
            have HBL := Lib.hid hbl
            have S3 : ∀ (Wx : World) (b : Nat), Wx.heap[b]? = some (.cells (cellsB bm) 4 (0, 0)) → Wx.cell? ⟨b, k, none⟩ = some (.bool true) := fun Wx b hb => ((show Is Wx b 4 (cellsB bm) from hb).cell k).trans ((cellsB_at (by omega)).trans (by rw [hsn]))
            have HS3 := Lib.hid S3
            clear S3
            rw [if_neg (by decide)]
            clear hs hA hbl hsn h hr
            go_enter Tryz.func186, Tryz.ntmps186
            go_wp2_with fail
            refine (KB _ ((((Fr.refl _ _).alloc _).alloc _).alloc _)).mono ?_
            clear KB
            rintro x w1 ⟨rfl, f1⟩
            obtain ⟨isr, isp, F⟩ := pre w1 f1
            have p0 := (plan_cells isp).1
            have s2' : w1.cell? ⟨g, o + k * 3 + 2, none⟩ = some (.int .i64 0) := (F.cell (p := ⟨g, o + k * 3 + 2, none⟩) hg id).trans s2
            rw [HA.out] at p0 KS
            clear pre f1 s2
            go_wp2_with fail
            refine (KS _).mono ?_
            rintro x w2 ⟨rfl, rfl⟩
            go_upto_region 7 with (fail)
            clear s2' p0 KS
            refine wp_region_held_drew (S := fun Wx => (Wx.cell? ⟨w.heap.size + 2, 0, none⟩ = some (.slice C.A1 C.l.length C.c1) ∧ Wx.cell? ⟨w.heap.size + 2, 1, none⟩ = some (.slice C.A2 C.js.length C.c2) ∧ Wx.cell? ⟨w.heap.size + 2, 2, none⟩ = some (.slice C.A3 C.sg.length C.c3) ∧ Wx.cell? ⟨w.heap.size + 2, 3, none⟩ = some (.slice C.A4 C.cr.length C.c4) ∧ Wx.cell? ⟨w.heap.size + 2, 4, none⟩ = some (.slice C.A5 C.rs.length C.c5) ∧ Wx.cell? ⟨w.heap.size + 2, 5, none⟩ = some (.int .i64 C.tm.age) ∧ Wx.cell? ⟨w.heap.size + 2, 6, none⟩ = some (.int .i64 C.tm.brake) ∧ Wx.cell? ⟨w.heap.size + 2, 7, none⟩ = some (.int .i64 C.tm.hold) ∧ Wx.cell? ⟨w.heap.size + 2, 8, none⟩ = some (.int .i64 C.tm.budget)) ∧ (Wx.cell? ⟨w.heap.size + 1, 0, none⟩ = some (.int .i64 r.entry) ∧ Wx.cell? ⟨w.heap.size + 1, 1, none⟩ = some (.int .i64 r.exit) ∧ Wx.cell? ⟨w.heap.size + 1, 2, none⟩ = some (.slice r.a1 r.path.length r.c1) ∧ Wx.cell? ⟨w.heap.size + 1, 3, none⟩ = some (.slice r.a2 r.flank.length r.c2) ∧ Wx.cell? ⟨w.heap.size + 1, 4, none⟩ = some (.slice r.a3 r.over.length r.c3) ∧ Wx.cell? ⟨w.heap.size + 1, 5, none⟩ = some (.bool false))) (by kernel_rfl) ⟨plan_cells isp, ro_cells isr⟩ (fun hHeld => ?_)
            refine wpAnyH_take (i := 0) (v := ?_) rfl (by kernel_rfl) (by kernel_rfl) (by kernel_rfl) (fun _ _ _ h => h) (Or.inl ⟨by rfl, ?_⟩) (by assumption) ?_
            rotate_left
            · intro Wx hSw
              try dsimp only at hSw
              go_simp
              try with_reducible rfl
            try simp only [Act.put]
            refine wpAnyH_take (i := 1) (v := ?_) rfl (by kernel_rfl) (by kernel_rfl) (by kernel_rfl) (fun _ _ _ h => h) (Or.inl ⟨by rfl, ?_⟩) (by assumption) ?_
            rotate_left
            · intro Wx hSw
              try dsimp only at hSw
              go_simp
              try with_reducible rfl
            try simp only [Act.put]
            refine wpAnyH_take (i := 2) (v := ?_) rfl (by kernel_rfl) (by kernel_rfl) (by kernel_rfl) (fun _ _ _ h => h) (Or.inl ⟨by rfl, ?_⟩) (by assumption) ?_
            rotate_left
            · intro Wx hSw
              try dsimp only at hSw
              go_simp
              try with_reducible rfl
            try simp only [Act.put]
            refine wpAnyH_take (i := 4) (v := ?_) rfl (by kernel_rfl) (by kernel_rfl) (by kernel_rfl) (fun _ _ _ h => h) (Or.inl ⟨by rfl, ?_⟩) (by assumption) ?_
            rotate_left
            · intro Wx hSw
              try dsimp only at hSw
              go_simp
              try with_reducible rfl
            try simp only [Act.put]
            refine wpAnyH_take (i := 5) (v := ?_) rfl (by kernel_rfl) (by kernel_rfl) (by kernel_rfl) (fun _ _ _ h => h) (Or.inl ⟨by rfl, ?_⟩) (by assumption) ?_
            rotate_left
            · intro Wx hSw
              try dsimp only at hSw
              go_simp
              try with_reducible rfl
            try simp only [Act.put]
            refine wpAnyH_take (i := 7) (v := ?_) rfl (by kernel_rfl) (by kernel_rfl) (by kernel_rfl) (fun _ _ _ h => h) (Or.inl ⟨by rfl, ?_⟩) (by assumption) ?_
            rotate_left
            · intro Wx hSw
              try dsimp only at hSw
              go_simp
              try with_reducible rfl
            try simp only [Act.put]
            refine wpAnyH_ready (rs := [3]) (by kernel_rfl) (by simp) (AllReadyH.cons rfl (fun K hK => ?_) AllReadyH.nil)
            go_simp
            refine (KA _ (by first | exact F.drew | exact F)).mono ?_
            rintro e w4 ⟨rfl, f4⟩
            have isr4 := isr.drew.fr f4 id
            have isp4 := isp.drew.fr f4 id
            have F4 := fr_nil F.drew f4
            go_simp
            refine hK.out _ _ ⟨plan_cells isp4, ro_cells isr4⟩ (fun hHeld => ?_)
            clear hK K
            refine wpAnyH_ready (rs := [6]) (by kernel_rfl) (by simp) (AllReadyH.cons rfl (fun K hK => ?_) AllReadyH.nil)
            go_simp
            refine (KR _ F4).mono ?_
            rintro e w5 ⟨gb, rfl, hgb, isb, f5⟩
            have isr5 := isr4.fr f5 id
            have isp5 := isp4.fr f5 id
            have F5 := fr_nil F4 f5
            have b0 := HS3.out _ gb isb
            go_simp
            refine hK.out _ _ ⟨plan_cells isp5, ro_cells isr5⟩ (fun hHeld => ?_)
            clear hK K
            refine wpAnyH_take (i := 8) (v := ?_) rfl (by kernel_rfl) (by kernel_rfl) (by kernel_rfl) (fun _ _ _ h => h) (Or.inl ⟨by rfl, ?_⟩) (by assumption) ?_
            rotate_left
            · intro Wx hSw
              try dsimp only at hSw
              go_simp
              try with_reducible rfl
            refine wpAnyH_ready (rs := [9]) (by kernel_rfl) (by simp) (AllReadyH.cons rfl (fun K hK => ?_) AllReadyH.nil)
            go_simp
            refine hK.out _ _ ⟨plan_cells isp5, ro_cells isr5⟩ (fun hHeld => ?_)
            clear hK K
            refine wpAnyH_done (by kernel_rfl) ?_ _
            go_wp2_with fail
            go_ret
            exact ⟨none, 0, rfl, World.ownsRow_nil _ _ _ _, F5⟩
        · have e0 : (ln != 0) = true := by simp [hl]
          rw [show decide (ln = 0) = false by simp [hl], Bool.false_and, if_neg (by decide)]
          have HA := Lib.hid hA
          clear hs KA KR hl hA
          go_enter Tryz.func186, Tryz.ntmps186
          go_wp2_with fail
          refine (KB _ ((((Fr.refl _ _).alloc _).alloc _).alloc _)).mono ?_
          clear KB
          rintro x w1 ⟨rfl, f1⟩
          obtain ⟨isr, isp, F⟩ := pre w1 f1
          have p0 := (plan_cells isp).1
          have s2' : w1.cell? ⟨g, o + k * 3 + 2, none⟩ = some (.int .i64 ln) := (F.cell (p := ⟨g, o + k * 3 + 2, none⟩) hg id).trans s2
          rw [HA.out] at p0 KS
          clear pre f1 s2 h
          go_wp2_with fail
          refine (KS _).mono ?_
          rintro x w2 ⟨rfl, rfl⟩
          go_wp2_with fail
          go_ret
          exact ⟨none, 0, rfl, World.ownsRow_nil _ _ _ _, F⟩
  · rw [Bool.not_true, Bool.false_and, if_neg (by decide)]
    clear KB KS KA KR
    go_enter Tryz.func186, Tryz.ntmps186
    go_wp2_with fail
    go_ret
    exact ⟨none, 0, rfl, World.ownsRow_nil _ _ _ _, ((Fr.refl _ _).alloc _).alloc _⟩
end Go.Proofs.YtginfnbdnkgjbaaGreat

namespace Go.Proofs.YtginfnbdnkgjbaaGreat
open Go.RowKit

theorem Tryz.infoI6 : (Tryz.prog.info? 3).map (fun i => (i.zero, i.size, i.bytes)) = some (some (.int .i64 0), 1, 8) := by kernel_rfl

theorem wide_base {w : World} {e : TypeId} {B B' size n : Nat} {v : Value} {xs : List Value} (h : w.ownsRow B e size v n xs) (hb : B' ≤ B) : w.ownsRow B' e size v n xs := by
  refine ⟨h.1, ?_⟩
  rcases h.2 with k | ⟨g, cap, cur, hv, hB, r⟩
  · exact .inl k
  · exact .inr ⟨g, cap, cur, hv, Nat.le_trans hb hB, r⟩
theorem take_snoc_map {α : Type} (f : α → Int) {l : List α} {k : Nat} (h : k < l.length) : (l.take (k + 1)).map f = (l.take k).map f ++ [f l[k]] := by
  rw [List.take_succ_eq_append_getElem h, List.map_append]
  rfl
set_option maxHeartbeats 4000000 in
theorem locks_any (C : Cm) (k : Int) (w : World) (h : C.Ok w) (hb : ∀ r ∈ C.rs, (r.over.length + (r.path.length + r.flank.length)) * 8 ≤ 140737488355328) :
    Calls Tryz.prog 141 #[C.val, .int .i64 k] w (Nums w (locksR C k)) := by
  have K := fun W => hasr_any (A := C.A5) (c := C.c5) (n := C.rs.length) k W
  unfold locksR
  cases hs : isSecB C.rs.length k
  · rw [hs] at K
    rw [if_neg (by decide)]
    clear hs
    unfold Cm.val Cm.arr
    go_enter Tryz.func141, Tryz.ntmps141
    go_wp2_with fail
    refine (K _).mono ?_
    rintro e w1 ⟨rfl, rfl⟩
    go_wp2_with fail
    go_ret
    exact ⟨none, 0, rfl, World.ownsRow_nil _ _ _ _, (Fr.refl _ _).alloc _⟩
  · rw [hs] at K
    obtain ⟨j, rfl, hlt⟩ := isSecB_true hs
    rw [if_pos rfl, Int.toNat_natCast, rs_at hlt]
    have hbr := hb _ (List.getElem_mem hlt)
    have hr := h.each _ (List.getElem_mem hlt)
    obtain ⟨g, o, hA, q0, q1, q2, q3, q4, q5⟩ := rd_ro h.rts hlt
    have hg := World.block_lt_of_cell? _ ⟨g, o + j * 6, none⟩ q0
    clear hs h
    generalize C.rs[j] = r at *
    have hraw : rawLocks r.rt = r.over ++ (r.path.map St.sec ++ r.flank.map Nd.sec) := rfl
    have hlm : locksM r.rt = Lib.compact (sortM (rawLocks r.rt)) := rfl
    rw [hlm, hraw]
    clear hraw hlm hb
    obtain ⟨en, ex, a1, k1, path, a2, k2, flank, a3, k3, over, sh⟩ := r
    have h1 := hr.path
    have h2 := hr.flank
    have h3 := hr.over
    clear hr
    dsimp only at *
    have KC := fun W (f : Fr (fun _ => False) w W) => clone_any (c := k3) W (h3.fr f fun _ _ => id) (by omega)
    obtain ⟨i0, hi0, hz0, hz1, hz2⟩ := info_parts Tryz.infoI6
    unfold Cm.val Cm.arr
    rw [hA] at K ⊢
    clear hA
    go_enter Tryz.func141, Tryz.ntmps141
    go_wp2_with fail
    refine (K _).mono ?_
    clear K
    rintro e w1 ⟨rfl, rfl⟩
    go_wp2_with fail
    refine (KC _ (((Fr.refl _ _).alloc _).alloc _)).mono ?_
    clear KC
    rintro e w1 ⟨A1, c1, rfl, hown, f1⟩
    have isr : Is w1 (w.heap.size + 1) 74 #[.int .i64 en, .int .i64 ex, .slice a1 path.length k1, .slice a2 flank.length k2, .slice a3 over.length k3, .bool sh] := (is_new_at (by simp) _ _).fr f1 id
    have F := fr_nil (((Fr.refl (fun _ => False) w).alloc (.cells #[.slice C.A1 C.l.length C.c1, .slice C.A2 C.js.length C.c2, .slice C.A3 C.sg.length C.c3, .slice C.A4 C.cr.length C.c4, .slice (some ⟨g, o, none⟩) C.rs.length C.c5, .int .i64 C.tm.age, .int .i64 C.tm.brake, .int .i64 C.tm.hold, .int .i64 C.tm.budget] 30)).alloc (.cells #[.int .i64 en, .int .i64 ex, .slice a1 path.length k1, .slice a2 flank.length k2, .slice a3 over.length k3, .bool sh] 74)) f1
    have hown1 : w1.ownsRow w.heap.size 3 1 (.slice A1 over.length c1) over.length (over.map (Value.int .i64)) := wide_base hown (by simp; omega)
    obtain ⟨r0, r1, r2, r3, r4, r5⟩ := ro_cells (r := ⟨en, ex, a1, k1, path, a2, k2, flank, a3, k3, over, sh⟩) isr
    clear hown f1
    go_wp2_with fail
    clear r0 r1 r2 r3 r4 r5 q0 q1 q2 q3 q4 q5
    go_loopw [6, 27] (fun v6 v27 wr => ∃ (i : Nat) (L : List Int) (A : Option Addr) (c : Nat), i ≤ path.length ∧ v27 = .int .i64 (i : Nat) ∧ v6 = .slice A L.length c ∧ L = over ++ (path.take i).map St.sec ∧
        wr.ownsRow w.heap.size 3 1 (.slice A L.length c) L.length (L.map (Value.int .i64)) ∧ Is wr (w.heap.size + 1) 74 #[.int .i64 en, .int .i64 ex, .slice a1 path.length k1, .slice a2 flank.length k2, .slice a3 over.length k3, .bool sh] ∧ Fr (fun _ => False) w wr)
      (fun _ i _ => path.length - (intOf i).toNat)
    case atStart => exact ⟨0, over, A1, c1, Nat.zero_le _, rfl, rfl, by simp, hown1, isr, F⟩
    case round =>
      clear hown1 isr F
      obtain ⟨i, L, A, c, hi, rfl, rfl, hL, hown, isr, F⟩ := hrel
      have hLl : L.length = over.length + i := by rw [hL, List.length_append, List.length_map, List.length_take]; omega
      have hLn : (L.length + 1) * 8 ≤ 140737488355328 ∨ ¬ i < path.length := by omega
      have HLL := Lib.hid hLl
      have HL := Lib.hid hL
      clear hLl hL
      by_cases hlp : i < path.length
      · obtain ⟨ga, oa, rfl, q0, q1, q2⟩ := rd_st (h1.fr F fun _ _ => id) hlp
        have hLn : (L.length + 1) * 8 ≤ 140737488355328 := by omega
        have hts := take_snoc_map St.sec hlp
        have HTS := Lib.hid hts
        clear hts
        generalize path[i] = v at *
        have hlo := World.ownsRow.lt hown
        go_wp2_with (at_builtin; refine wpList_append_wide _ rfl (.tmp 31) (.tmp 34) 25 rfl w.heap.size 3 i0 _ 1 8 Tryz.underlying25 hi0 hz0 hz1 hz2 rfl (by decide) (.slice A L.length c) L.length (L.map (Value.int .i64)) rfl ((hown.alloc _).alloc _) (some ⟨wr.heap.size + 1, 0, none⟩) 1 1 [.int .i64 v.sec] rfl rfl (lit_rd_at (by simp) _ _) (by simp [Value.oneCell']) (by unfold maxLen; omega) (by omega) (Nat.le_trans F.size (by simp; omega)) ?_; intro v6 w6 hown6 hg6 hat6; obtain ⟨A6, c6, rfl, _, _, _, _⟩ := wide_form hown6)
        have f7 := (Fr.refl (fun j => (Value.slice A L.length c).ownBlock = some j) _).grown hg6 fun j hj => .inl hj
        have isr6 := ((isr.alloc (.cells #[.int .i64 v.sec, .int .i64 v.inn, .int .i64 v.out] 76)).alloc (.cells #[.int .i64 v.sec] 3)).fr f7 (wide_is_ne hown isr (by decide))
        have F6 := ((F.alloc (.cells #[.int .i64 v.sec, .int .i64 v.inn, .int .i64 v.out] 76)).alloc (.cells #[.int .i64 v.sec] 3)).grown hg6 fun j hj => .inr (hlo j hj).1
        clear f7 hg6 hat6 hlo q0 q1 q2
        go_wp2_with fail
        go_roundw
        case rel => exact ⟨i + 1, L ++ [v.sec], A6, c6, by omega, by go_num, by rw [List.length_append]; rfl, by rw [HTS.out, HL.out, List.append_assoc], by rw [List.length_append, List.map_append]; exact hown6, isr6, F6⟩
        case measure => simp [intOf]; omega
      · obtain rfl : i = path.length := by omega
        have hL2 : L = over ++ path.map St.sec := by rw [HL.out, List.take_length]
        have HL2 := Lib.hid hL2
        clear hL2 HL
        obtain ⟨r0, r1, r2, r3, r4, r5⟩ := ro_cells (r := ⟨en, ex, a1, k1, path, a2, k2, flank, a3, k3, over, sh⟩) isr
        have hLL : L.length = over.length + path.length := HLL.out
        have HLn := Lib.hid hLL
        have hbound : L.length + flank.length ≤ 17592186044416 := by omega
        clear hLL HLL hbr
        go_wp2_with fail
        clear r0 r1 r2 r3 r4 r5
        go_loopw [6, 40] (fun v6 v40 wr => ∃ (i : Nat) (M : List Int) (A : Option Addr) (c : Nat), i ≤ flank.length ∧ v40 = .int .i64 (i : Nat) ∧ v6 = .slice A M.length c ∧ M = L ++ (flank.take i).map Nd.sec ∧ M.length = L.length + i ∧
            wr.ownsRow w.heap.size 3 1 (.slice A M.length c) M.length (M.map (Value.int .i64)) ∧ Fr (fun _ => False) w wr)
          (fun _ i _ => flank.length - (intOf i).toNat)
        case atStart => exact ⟨0, L, A, c, Nat.zero_le _, rfl, rfl, by simp, rfl, hown, F⟩
        case round =>
          clear hown isr F
          obtain ⟨i, M, A, c, hi, rfl, rfl, hM, hMl, hown, F⟩ := hrel
          have HM := Lib.hid hM
          have hMb : M.length ≤ 17592186044416 := by omega
          have HML := Lib.hid hMl
          by_cases hlp : i < flank.length
          · have hMn : (M.length + 1) * 8 ≤ 140737488355328 := by omega
            clear hM hMl
            obtain ⟨ga, oa, rfl, q0, q1⟩ := rd_nd (h2.fr F fun _ _ => id) hlp
            have hts := take_snoc_map Nd.sec hlp
            have HTS := Lib.hid hts
            clear hts
            generalize flank[i] = v at *
            have hlo := World.ownsRow.lt hown
            go_wp2_with (at_builtin; refine wpList_append_wide _ rfl (.tmp 44) (.tmp 47) 25 rfl w.heap.size 3 i0 _ 1 8 Tryz.underlying25 hi0 hz0 hz1 hz2 rfl (by decide) (.slice A M.length c) M.length (M.map (Value.int .i64)) rfl ((hown.alloc _).alloc _) (some ⟨wr.heap.size + 1, 0, none⟩) 1 1 [.int .i64 v.sec] rfl rfl (lit_rd_at (by simp) _ _) (by simp [Value.oneCell']) (by unfold maxLen; omega) (by omega) (Nat.le_trans F.size (by simp; omega)) ?_; intro v6 w6 hown6 hg6 hat6; obtain ⟨A6, c6, rfl, _, _, _, _⟩ := wide_form hown6)
            have F6 := ((F.alloc (.cells #[.int .i64 v.sec, .int .i64 v.pos] 109)).alloc (.cells #[.int .i64 v.sec] 3)).grown hg6 fun j hj => .inr (hlo j hj).1
            clear hg6 hat6 hlo q0 q1
            go_wp2_with fail
            go_roundw
            case rel => exact ⟨i + 1, M ++ [v.sec], A6, c6, by omega, by go_num, by rw [List.length_append]; rfl, by rw [HTS.out, HM.out, List.append_assoc], by have := HML.out; rw [List.length_append, List.length_singleton]; omega, by rw [List.length_append, List.map_append]; exact hown6, F6⟩
            case measure => simp [intOf]; omega
          · obtain rfl : i = flank.length := by omega
            have hM2 : over ++ (path.map St.sec ++ flank.map Nd.sec) = M := by rw [HM.out, List.take_length, HL2.out, List.append_assoc]
            have HM2 := Lib.hid hM2
            clear hM hMl hM2
            have hlo := World.ownsRow.lt hown
            go_wp2_with fail
            refine (sort_own _ hown (by omega)).mono ?_
            rintro e w4 ⟨rfl, hown4, f4⟩
            go_wp2_with fail
            refine (compact_own _ hown4 (by omega)).mono ?_
            rintro e w5 ⟨rfl, hown5, f5⟩
            go_wp2_with fail
            go_ret
            rw [HM2.out]
            refine ⟨A, c, rfl, hown5, ?_⟩
            have hA : ∀ k, blk A = some k → w.heap.size ≤ k := fun k hk => (hlo k (by rw [Row.own]; exact hk)).1
            exact ⟨f5.os.trans (f4.os.trans F.os), f5.tape.trans (f4.tape.trans F.tape), f5.output.trans (f4.output.trans F.output), Nat.le_trans F.size (Nat.le_trans f4.size f5.size), fun i hi _ =>
              (f5.block i (Nat.lt_of_lt_of_le hi (Nat.le_trans F.size f4.size)) (fun e => by have := hA _ e; omega)).trans ((f4.block i (Nat.lt_of_lt_of_le hi F.size) (fun e => by have := hA _ e; omega)).trans (F.block i hi id))⟩
end Go.Proofs.YtginfnbdnkgjbaaGreat


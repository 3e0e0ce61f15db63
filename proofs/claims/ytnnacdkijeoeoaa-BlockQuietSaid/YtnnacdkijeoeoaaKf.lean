/- Contracts and plain mathematics of earlier stages: Over, Lock2. -/
import Derived.Test.YtnnacdkijeoeoaaKe
import Derived.Deep.RegionHeld3
namespace Go.Proofs.Ytnnacdkijeoeoaa
open Go.RowKit

theorem over_split (l : List Sec) (js : List Jo) (sg : List Sg) (r : Rt) : overOk l js sg r = (!r.shunt && (beyOk sg js r.exit && (isSecB l.length (beyS sg js r.exit) && (decide (lineOf l (beyS sg js r.exit).toNat = 0) && !seenAt (barM l.length (apM sg r.entry) r.path) (beyS sg js r.exit).toNat)))) := by
  unfold overOk beyOk beyS
  cases isSecB sg.length r.exit
  · simp
  · simp
theorem overM_eq (l : List Sec) (js : List Jo) (sg : List Sg) (r : Rt) : overM l js sg r = if overOk l js sg r = true then [beyS sg js r.exit] else [] := by
  unfold overM
  by_cases h : overOk l js sg r = true
  · rw [if_pos h, if_pos h]
    unfold beyS
    unfold overOk at h
    simp only [Bool.and_eq_true] at h
    rw [if_pos h.2.1]
  · rw [if_neg h, if_neg h]

set_option maxHeartbeats 4000000 in
theorem overlap_any (C : Cm) (r : Ro) (w : World) (h : C.Ok w) (hr : r.Ok w) :
    Calls Try.prog 63 #[C.val, r.val] w (Nums w (overM C.l C.js C.sg r.rt)) := by
  have KB := fun W (f : Fr (fun _ => False) w W) => beyond_any C r.exit W (h.fr f)
  have KS := fun W => hass_any (A := C.A1) (c := C.c1) (n := C.l.length) (beyS C.sg C.js r.exit) W
  have b1 := hr.b1
  have KA := fun W (f : Fr (fun _ => False) w W) => approach_any C r W (h.fr f)
  have KR := fun ap W (f : Fr (fun _ => False) w W) => barred_any C ap (c := r.c1) r.path W (h.fr f) (hr.path.fr f fun _ _ => id) (by omega)
  rw [overM_eq, over_split]
  clear b1
  unfold Cm.val Cm.arr Ro.val at *
  have e1 : r.rt.shunt = r.shunt := rfl
  have e2 : r.rt.exit = r.exit := rfl
  have e3 : r.rt.entry = r.entry := rfl
  have e4 : r.rt.path = r.path := rfl
  rw [e1, e2, e3, e4]
  clear e1 e2 e3 e4
  cases hsh : r.shunt
  · rw [hsh] at KA
    rw [Bool.not_false, Bool.true_and]
    generalize hQ : beyS C.sg C.js r.exit = Q at *
    generalize beyE C.sg C.js r.exit = E at *
    clear hQ
    have pre : ∀ w1 : World, Fr (fun _ => False) (((w.alloc (.cells #[.slice C.A1 C.l.length C.c1, .slice C.A2 C.js.length C.c2, .slice C.A3 C.sg.length C.c3, .slice C.A4 C.cr.length C.c4, .slice C.A5 C.rs.length C.c5, .int .i64 C.tm.age, .int .i64 C.tm.brake, .int .i64 C.tm.hold, .int .i64 C.tm.budget] 30)).alloc (.cells #[.int .i64 r.entry, .int .i64 r.exit, .slice r.a1 r.path.length r.c1, .slice r.a2 r.flank.length r.c2, .slice r.a3 r.over.length r.c3, .bool false] 83)).alloc (.cells #[.slice C.A1 C.l.length C.c1, .slice C.A2 C.js.length C.c2, .slice C.A3 C.sg.length C.c3, .slice C.A4 C.cr.length C.c4, .slice C.A5 C.rs.length C.c5, .int .i64 C.tm.age, .int .i64 C.tm.brake, .int .i64 C.tm.hold, .int .i64 C.tm.budget] 97)) w1 →
        Is w1 (w.heap.size + 1) 83 #[.int .i64 r.entry, .int .i64 r.exit, .slice r.a1 r.path.length r.c1, .slice r.a2 r.flank.length r.c2, .slice r.a3 r.over.length r.c3, .bool false] ∧ Is w1 (w.heap.size + 2) 97 C.arr ∧ Fr (fun _ => False) w w1 := fun w1 f1 =>
      ⟨((is_new_at (by simp) _ _).alloc _).fr f1 id, (is_new_at (by simp) _ _).fr f1 id, fr_nil ((((Fr.refl _ _).alloc _).alloc _).alloc _) f1⟩
    cases hO : beyOk C.sg C.js r.exit
    · rw [hO] at KB
      rw [Bool.false_and, if_neg (by decide)]
      clear hO KS KA KR
      go_enter Try.func63, Try.ntmps63
      go_wp2_with fail
      refine (KB _ ((((Fr.refl _ _).alloc _).alloc _).alloc _)).mono ?_
      clear KB
      rintro x w1 ⟨rfl, f1⟩
      obtain ⟨isr, isp, F⟩ := pre w1 f1
      clear pre f1
      go_wp2_with fail
      go_ret
      exact ⟨none, 0, rfl, World.ownsRow_nil _ _ _ _, F⟩
    · rw [hO] at KB
      rw [Bool.true_and]
      clear hO
      cases hs : isSecB C.l.length Q
      · rw [hs] at KS
        rw [Bool.false_and, if_neg (by decide)]
        clear hs KA KR
        go_enter Try.func63, Try.ntmps63
        go_wp2_with fail
        refine (KB _ ((((Fr.refl _ _).alloc _).alloc _).alloc _)).mono ?_
        clear KB
        rintro x w1 ⟨rfl, f1⟩
        obtain ⟨isr, isp, F⟩ := pre w1 f1
        have p0 := (plan_cells isp).1
        clear pre f1
        go_wp2_with fail
        refine (KS _).mono ?_
        rintro x w2 ⟨rfl, rfl⟩
        go_wp2_with fail
        go_ret
        exact ⟨none, 0, rfl, World.ownsRow_nil _ _ _ _, F⟩
      · rw [hs] at KS
        obtain ⟨k, rfl, hk⟩ := isSecB_true hs
        rw [Bool.true_and, Int.toNat_natCast, lineOf_at hk]
        obtain ⟨g, o, hA, _, _, s2⟩ := rd_sec h.secs hk
        have hg := World.block_lt_of_cell? _ ⟨g, o + k * 3 + 2, none⟩ s2
        generalize C.l[k].line = ln at *
        by_cases hl : ln = 0
        · subst hl
          rw [show decide ((0 : Int) = 0) = true from rfl, Bool.true_and]
          have hbl := barM_length C.l.length (apM C.sg r.entry) r.path
          have KR := KR (apM C.sg r.entry)
          generalize barM C.l.length (apM C.sg r.entry) r.path = bm at *
          generalize apM C.sg r.entry = ap at *
          have k1 : (0 : Int) ≤ (k : Int) := by omega
          have k2 : (k : Int) < (C.l.length : Int) := by omega
          cases hsn : seenAt bm k
          · have hsz := h.b1
            have HA := Lib.hid hA
            have HBL := Lib.hid hbl
            have S3 : ∀ (Wx : World) (b : Nat), Wx.heap[b]? = some (.cells (cellsB bm) 4 (0, 0)) → Wx.cell? ⟨b, k, none⟩ = some (.bool false) := fun Wx b hb => ((show Is Wx b 4 (cellsB bm) from hb).cell k).trans ((cellsB_at (by omega)).trans (by rw [hsn]))
            have HS3 := Lib.hid S3
            clear S3
            rw [if_pos (show (!false) = true from rfl)]
            clear hs hA hbl hsn h hr
            go_enter Try.func63, Try.ntmps63
            go_wp2_with fail
            refine (KB _ ((((Fr.refl _ _).alloc _).alloc _).alloc _)).mono ?_
            clear KB
            rintro x w1 ⟨rfl, f1⟩
            obtain ⟨isr, isp, F⟩ := pre w1 f1
            have p0 := (plan_cells isp).1
            have s2' : w1.cell? ⟨g, o + k * 3 + 2, none⟩ = some (.int .i64 0) := (F.cell (p := ⟨g, o + k * 3 + 2, none⟩) hg id).trans s2
            rw [HA.out] at p0 KS
            clear pre f1 s2
            go_wp2_with fail
            refine (KS _).mono ?_
            rintro x w2 ⟨rfl, rfl⟩
            go_upto_region 7 with (fail)
            clear s2' p0 KS
            refine wp_region_held_drew (S := fun Wx => (Wx.cell? ⟨w.heap.size + 2, 0, none⟩ = some (.slice C.A1 C.l.length C.c1) ∧ Wx.cell? ⟨w.heap.size + 2, 1, none⟩ = some (.slice C.A2 C.js.length C.c2) ∧ Wx.cell? ⟨w.heap.size + 2, 2, none⟩ = some (.slice C.A3 C.sg.length C.c3) ∧ Wx.cell? ⟨w.heap.size + 2, 3, none⟩ = some (.slice C.A4 C.cr.length C.c4) ∧ Wx.cell? ⟨w.heap.size + 2, 4, none⟩ = some (.slice C.A5 C.rs.length C.c5) ∧ Wx.cell? ⟨w.heap.size + 2, 5, none⟩ = some (.int .i64 C.tm.age) ∧ Wx.cell? ⟨w.heap.size + 2, 6, none⟩ = some (.int .i64 C.tm.brake) ∧ Wx.cell? ⟨w.heap.size + 2, 7, none⟩ = some (.int .i64 C.tm.hold) ∧ Wx.cell? ⟨w.heap.size + 2, 8, none⟩ = some (.int .i64 C.tm.budget)) ∧ (Wx.cell? ⟨w.heap.size + 1, 0, none⟩ = some (.int .i64 r.entry) ∧ Wx.cell? ⟨w.heap.size + 1, 1, none⟩ = some (.int .i64 r.exit) ∧ Wx.cell? ⟨w.heap.size + 1, 2, none⟩ = some (.slice r.a1 r.path.length r.c1) ∧ Wx.cell? ⟨w.heap.size + 1, 3, none⟩ = some (.slice r.a2 r.flank.length r.c2) ∧ Wx.cell? ⟨w.heap.size + 1, 4, none⟩ = some (.slice r.a3 r.over.length r.c3) ∧ Wx.cell? ⟨w.heap.size + 1, 5, none⟩ = some (.bool false))) (by kernel_rfl) ⟨plan_cells isp, ro_cells isr⟩ (fun hHeld => ?_)
            refine wpAnyH_take (i := 0) (v := ?_) rfl (by kernel_rfl) (by kernel_rfl) (by kernel_rfl) (fun _ _ _ h => h) (Or.inl ⟨by rfl, ?_⟩) (by assumption) ?_
            rotate_left
            · intro Wx hSw
              try dsimp only at hSw
              go_simp
              try with_reducible rfl
            try simp only [Act.put]
            refine wpAnyH_take (i := 1) (v := ?_) rfl (by kernel_rfl) (by kernel_rfl) (by kernel_rfl) (fun _ _ _ h => h) (Or.inl ⟨by rfl, ?_⟩) (by assumption) ?_
            rotate_left
            · intro Wx hSw
              try dsimp only at hSw
              go_simp
              try with_reducible rfl
            try simp only [Act.put]
            refine wpAnyH_take (i := 2) (v := ?_) rfl (by kernel_rfl) (by kernel_rfl) (by kernel_rfl) (fun _ _ _ h => h) (Or.inl ⟨by rfl, ?_⟩) (by assumption) ?_
            rotate_left
            · intro Wx hSw
              try dsimp only at hSw
              go_simp
              try with_reducible rfl
            try simp only [Act.put]
            refine wpAnyH_take (i := 4) (v := ?_) rfl (by kernel_rfl) (by kernel_rfl) (by kernel_rfl) (fun _ _ _ h => h) (Or.inl ⟨by rfl, ?_⟩) (by assumption) ?_
            rotate_left
            · intro Wx hSw
              try dsimp only at hSw
              go_simp
              try with_reducible rfl
            try simp only [Act.put]
            refine wpAnyH_take (i := 5) (v := ?_) rfl (by kernel_rfl) (by kernel_rfl) (by kernel_rfl) (fun _ _ _ h => h) (Or.inl ⟨by rfl, ?_⟩) (by assumption) ?_
            rotate_left
            · intro Wx hSw
              try dsimp only at hSw
              go_simp
              try with_reducible rfl
            try simp only [Act.put]
            refine wpAnyH_take (i := 7) (v := ?_) rfl (by kernel_rfl) (by kernel_rfl) (by kernel_rfl) (fun _ _ _ h => h) (Or.inl ⟨by rfl, ?_⟩) (by assumption) ?_
            rotate_left
            · intro Wx hSw
              try dsimp only at hSw
              go_simp
              try with_reducible rfl
            try simp only [Act.put]
            refine wpAnyH_ready (rs := [3]) (by kernel_rfl) (by simp) (AllReadyH.cons rfl (fun K hK => ?_) AllReadyH.nil)
            go_simp
            refine (KA _ (by first | exact F.drew | exact F)).mono ?_
            rintro e w4 ⟨rfl, f4⟩
            have isr4 := isr.drew.fr f4 id
            have isp4 := isp.drew.fr f4 id
            have F4 := fr_nil F.drew f4
            go_simp
            refine hK.out _ _ ⟨plan_cells isp4, ro_cells isr4⟩ (fun hHeld => ?_)
            clear hK K
            refine wpAnyH_ready (rs := [6]) (by kernel_rfl) (by simp) (AllReadyH.cons rfl (fun K hK => ?_) AllReadyH.nil)
            go_simp
            refine (KR _ F4).mono ?_
            rintro e w5 ⟨gb, rfl, hgb, isb, f5⟩
            have isr5 := isr4.fr f5 id
            have isp5 := isp4.fr f5 id
            have F5 := fr_nil F4 f5
            have b0 := HS3.out _ gb isb
            go_simp
            refine hK.out _ _ ⟨plan_cells isp5, ro_cells isr5⟩ (fun hHeld => ?_)
            clear hK K
            refine wpAnyH_take (i := 8) (v := ?_) rfl (by kernel_rfl) (by kernel_rfl) (by kernel_rfl) (fun _ _ _ h => h) (Or.inl ⟨by rfl, ?_⟩) (by assumption) ?_
            rotate_left
            · intro Wx hSw
              try dsimp only at hSw
              go_simp
              try with_reducible rfl
            refine wpAnyH_ready (rs := [9]) (by kernel_rfl) (by simp) (AllReadyH.cons rfl (fun K hK => ?_) AllReadyH.nil)
            go_simp
            refine hK.out _ _ ⟨plan_cells isp5, ro_cells isr5⟩ (fun hHeld => ?_)
            clear hK K
            refine wpAnyH_done (by kernel_rfl) ?_ _
            go_wp2_with fail
            go_ret
            exact ⟨_, _, rfl, own_one _ _ _ _ F5.size, F5.alloc _⟩
          · have hsz := h.b1
            have HA := Lib.hid hA
            have HBL := Lib.hid hbl
            have S3 : ∀ (Wx : World) (b : Nat), Wx.heap[b]? = some (.cells (cellsB bm) 4 (0, 0)) → Wx.cell? ⟨b, k, none⟩ = some (.bool true) := fun Wx b hb => ((show Is Wx b 4 (cellsB bm) from hb).cell k).trans ((cellsB_at (by omega)).trans (by rw [hsn]))
            have HS3 := Lib.hid S3
            clear S3
            rw [if_neg (by decide)]
            clear hs hA hbl hsn h hr
            go_enter Try.func63, Try.ntmps63
            go_wp2_with fail
            refine (KB _ ((((Fr.refl _ _).alloc _).alloc _).alloc _)).mono ?_
            clear KB
            rintro x w1 ⟨rfl, f1⟩
            obtain ⟨isr, isp, F⟩ := pre w1 f1
            have p0 := (plan_cells isp).1
            have s2' : w1.cell? ⟨g, o + k * 3 + 2, none⟩ = some (.int .i64 0) := (F.cell (p := ⟨g, o + k * 3 + 2, none⟩) hg id).trans s2
            rw [HA.out] at p0 KS
            clear pre f1 s2
            go_wp2_with fail
            refine (KS _).mono ?_
            rintro x w2 ⟨rfl, rfl⟩
            go_upto_region 7 with (fail)
            clear s2' p0 KS
            refine wp_region_held_drew (S := fun Wx => (Wx.cell? ⟨w.heap.size + 2, 0, none⟩ = some (.slice C.A1 C.l.length C.c1) ∧ Wx.cell? ⟨w.heap.size + 2, 1, none⟩ = some (.slice C.A2 C.js.length C.c2) ∧ Wx.cell? ⟨w.heap.size + 2, 2, none⟩ = some (.slice C.A3 C.sg.length C.c3) ∧ Wx.cell? ⟨w.heap.size + 2, 3, none⟩ = some (.slice C.A4 C.cr.length C.c4) ∧ Wx.cell? ⟨w.heap.size + 2, 4, none⟩ = some (.slice C.A5 C.rs.length C.c5) ∧ Wx.cell? ⟨w.heap.size + 2, 5, none⟩ = some (.int .i64 C.tm.age) ∧ Wx.cell? ⟨w.heap.size + 2, 6, none⟩ = some (.int .i64 C.tm.brake) ∧ Wx.cell? ⟨w.heap.size + 2, 7, none⟩ = some (.int .i64 C.tm.hold) ∧ Wx.cell? ⟨w.heap.size + 2, 8, none⟩ = some (.int .i64 C.tm.budget)) ∧ (Wx.cell? ⟨w.heap.size + 1, 0, none⟩ = some (.int .i64 r.entry) ∧ Wx.cell? ⟨w.heap.size + 1, 1, none⟩ = some (.int .i64 r.exit) ∧ Wx.cell? ⟨w.heap.size + 1, 2, none⟩ = some (.slice r.a1 r.path.length r.c1) ∧ Wx.cell? ⟨w.heap.size + 1, 3, none⟩ = some (.slice r.a2 r.flank.length r.c2) ∧ Wx.cell? ⟨w.heap.size + 1, 4, none⟩ = some (.slice r.a3 r.over.length r.c3) ∧ Wx.cell? ⟨w.heap.size + 1, 5, none⟩ = some (.bool false))) (by kernel_rfl) ⟨plan_cells isp, ro_cells isr⟩ (fun hHeld => ?_)
            refine wpAnyH_take (i := 0) (v := ?_) rfl (by kernel_rfl) (by kernel_rfl) (by kernel_rfl) (fun _ _ _ h => h) (Or.inl ⟨by rfl, ?_⟩) (by assumption) ?_
            rotate_left
            · intro Wx hSw
              try dsimp only at hSw
              go_simp
              try with_reducible rfl
            try simp only [Act.put]
            refine wpAnyH_take (i := 1) (v := ?_) rfl (by kernel_rfl) (by kernel_rfl) (by kernel_rfl) (fun _ _ _ h => h) (Or.inl ⟨by rfl, ?_⟩) (by assumption) ?_
            rotate_left
            · intro Wx hSw
              try dsimp only at hSw
              go_simp
              try with_reducible rfl
            try simp only [Act.put]
            refine wpAnyH_take (i := 2) (v := ?_) rfl (by kernel_rfl) (by kernel_rfl) (by kernel_rfl) (fun _ _ _ h => h) (Or.inl ⟨by rfl, ?_⟩) (by assumption) ?_
            rotate_left
            · intro Wx hSw
              try dsimp only at hSw
              go_simp
              try with_reducible rfl
            try simp only [Act.put]
            refine wpAnyH_take (i := 4) (v := ?_) rfl (by kernel_rfl) (by kernel_rfl) (by kernel_rfl) (fun _ _ _ h => h) (Or.inl ⟨by rfl, ?_⟩) (by assumption) ?_
            rotate_left
            · intro Wx hSw
              try dsimp only at hSw
              go_simp
              try with_reducible rfl
            try simp only [Act.put]
            refine wpAnyH_take (i := 5) (v := ?_) rfl (by kernel_rfl) (by kernel_rfl) (by kernel_rfl) (fun _ _ _ h => h) (Or.inl ⟨by rfl, ?_⟩) (by assumption) ?_
            rotate_left
            · intro Wx hSw
              try dsimp only at hSw
              go_simp
              try with_reducible rfl
            try simp only [Act.put]
            refine wpAnyH_take (i := 7) (v := ?_) rfl (by kernel_rfl) (by kernel_rfl) (by kernel_rfl) (fun _ _ _ h => h) (Or.inl ⟨by rfl, ?_⟩) (by assumption) ?_
            rotate_left
            · intro Wx hSw
              try dsimp only at hSw
              go_simp
              try with_reducible rfl
            try simp only [Act.put]
            refine wpAnyH_ready (rs := [3]) (by kernel_rfl) (by simp) (AllReadyH.cons rfl (fun K hK => ?_) AllReadyH.nil)
            go_simp
            refine (KA _ (by first | exact F.drew | exact F)).mono ?_
            rintro e w4 ⟨rfl, f4⟩
            have isr4 := isr.drew.fr f4 id
            have isp4 := isp.drew.fr f4 id
            have F4 := fr_nil F.drew f4
            go_simp
            refine hK.out _ _ ⟨plan_cells isp4, ro_cells isr4⟩ (fun hHeld => ?_)
            clear hK K
            refine wpAnyH_ready (rs := [6]) (by kernel_rfl) (by simp) (AllReadyH.cons rfl (fun K hK => ?_) AllReadyH.nil)
            go_simp
            refine (KR _ F4).mono ?_
            rintro e w5 ⟨gb, rfl, hgb, isb, f5⟩
            have isr5 := isr4.fr f5 id
            have isp5 := isp4.fr f5 id
            have F5 := fr_nil F4 f5
            have b0 := HS3.out _ gb isb
            go_simp
            refine hK.out _ _ ⟨plan_cells isp5, ro_cells isr5⟩ (fun hHeld => ?_)
            clear hK K
            refine wpAnyH_take (i := 8) (v := ?_) rfl (by kernel_rfl) (by kernel_rfl) (by kernel_rfl) (fun _ _ _ h => h) (Or.inl ⟨by rfl, ?_⟩) (by assumption) ?_
            rotate_left
            · intro Wx hSw
              try dsimp only at hSw
              go_simp
              try with_reducible rfl
            refine wpAnyH_ready (rs := [9]) (by kernel_rfl) (by simp) (AllReadyH.cons rfl (fun K hK => ?_) AllReadyH.nil)
            go_simp
            refine hK.out _ _ ⟨plan_cells isp5, ro_cells isr5⟩ (fun hHeld => ?_)
            clear hK K
            refine wpAnyH_done (by kernel_rfl) ?_ _
            go_wp2_with fail
            go_ret
            exact ⟨none, 0, rfl, World.ownsRow_nil _ _ _ _, F5⟩
        · have e0 : (ln != 0) = true := by simp [hl]
          rw [show decide (ln = 0) = false by simp [hl], Bool.false_and, if_neg (by decide)]
          have HA := Lib.hid hA
          clear hs KA KR hl hA
          go_enter Try.func63, Try.ntmps63
          go_wp2_with fail
          refine (KB _ ((((Fr.refl _ _).alloc _).alloc _).alloc _)).mono ?_
          clear KB
          rintro x w1 ⟨rfl, f1⟩
          obtain ⟨isr, isp, F⟩ := pre w1 f1
          have p0 := (plan_cells isp).1
          have s2' : w1.cell? ⟨g, o + k * 3 + 2, none⟩ = some (.int .i64 ln) := (F.cell (p := ⟨g, o + k * 3 + 2, none⟩) hg id).trans s2
          rw [HA.out] at p0 KS
          clear pre f1 s2 h
          go_wp2_with fail
          refine (KS _).mono ?_
          rintro x w2 ⟨rfl, rfl⟩
          go_wp2_with fail
          go_ret
          exact ⟨none, 0, rfl, World.ownsRow_nil _ _ _ _, F⟩
  · rw [Bool.not_true, Bool.false_and, if_neg (by decide)]
    clear KB KS KA KR
    go_enter Try.func63, Try.ntmps63
    go_wp2_with fail
    go_ret
    exact ⟨none, 0, rfl, World.ownsRow_nil _ _ _ _, ((Fr.refl _ _).alloc _).alloc _⟩
end Go.Proofs.Ytnnacdkijeoeoaa

namespace Go.Proofs.Ytnnacdkijeoeoaa
open Go.RowKit

theorem Try.infoI6 : (Try.prog.info? 3).map (fun i => (i.zero, i.size, i.bytes)) = some (some (.int .i64 0), 1, 8) := by kernel_rfl

theorem wide_base {w : World} {e : TypeId} {B B' size n : Nat} {v : Value} {xs : List Value} (h : w.ownsRow B e size v n xs) (hb : B' ≤ B) : w.ownsRow B' e size v n xs := by
  refine ⟨h.1, ?_⟩
  rcases h.2 with k | ⟨g, cap, cur, hv, hB, r⟩
  · exact .inl k
  · exact .inr ⟨g, cap, cur, hv, Nat.le_trans hb hB, r⟩
theorem take_snoc_map {α : Type} (f : α → Int) {l : List α} {k : Nat} (h : k < l.length) : (l.take (k + 1)).map f = (l.take k).map f ++ [f l[k]] := by
  rw [List.take_succ_eq_append_getElem h, List.map_append]
  rfl
end Go.Proofs.Ytnnacdkijeoeoaa


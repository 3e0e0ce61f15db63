/- The walk of TeleShapes. -/
import Derived.Test.YtfmhfngilimhjaaTshp
namespace Go.Proofs.Ytfmhfngilimhjaa.Te
open Go.RowKit

theorem no6 {i : Nat} (h : (apart6.all fun p => p.1 != i) = true) {v : Value} {w : World} : ∀ p ∈ apart6, p.1 = i → ∀ b, footT p.2 v b → w.heap.size ≤ b := fun p hp e => by
  rw [List.all_eq_true] at h
  have := h p hp
  simp [e] at this
set_option maxRecDepth 100000 in
set_option maxHeartbeats 8000000 in
theorem shapes_walk {C : Cf} {w : World} (hC : C.Ok w) (oc : Int) :
    Calls Try.prog 3 #[C.val, .int .i64 oc] w fun e w' => e = .returned (.bool true) ∧ Fr (fun _ => False) w w' := by
  have KL := fun W => lives_any W
  have KH := fun (W : World) (k : C.Ok W) => shape_w k oc
  have KR := fun (W : World) (k : C.Ok W) => refshape_any k oc
  have KJ := fun (W : World) (k : C.Ok W) (j : Nat) => (shape_any k (j : Int)).mono fun e w' h => exs h
  have KS := fun (x y : Sta) (W : World) (hx : x.Ok W) (hy : y.Ok W) (he : x.st = y.st) => sameshape_any hx hy he
  have fb := (Fr.refl (fun _ => False) w).alloc (.cells C.arr 30)
  have ih : Is (w.alloc (.cells C.arr 30)) w.heap.size 30 C.arr := Is.new _ _ _
  have HC := Lib.hid hC
  have HFB := Lib.hid fb
  have HIH := Lib.hid ih
  clear fb ih hC
  unfold Cf.val Cf.cells at KH KR KJ
  unfold Cf.val Cf.cells
  unfold Cf.arr at *
  go_enter Try.func3, Try.ntmps3
  go_wp2_with fail
  generalize w.alloc _ = w0 at *
  refine (KL w0).mono ?_
  rintro e w1 ⟨rfl, f1⟩
  have HI1 := Lib.hid (HIH.out.fr f1 id)
  have HF1 := Lib.hid (fr_nil HFB.out f1)
  have HC1 := Lib.hid (HC.out.fr HF1.out)
  have HLT : Hid (w.heap.size < w1.heap.size) := Lib.hid HI1.out.lt
  clear f1 HIH HFB KL
  go_upto_region 3 with fail
  go_cut [5, 6, 7] from 3 (fun v5 v6 v7 wx => ∃ (b5 b6 b7 : Nat) (x y z : Sta) (P : Nat → Prop), v5 = .pointer (some ⟨b5, 0, none⟩) ∧ v6 = .pointer (some ⟨b6, 0, none⟩) ∧ v7 = .pointer (some ⟨b7, 0, none⟩) ∧ Is wx b5 33 x.cells.toArray ∧ Is wx b6 33 y.cells.toArray ∧ Is wx b7 33 z.cells.toArray ∧ Wp4 wx P x ∧ x.Ok wx ∧ y.Ok wx ∧ z.Ok wx ∧ y.st = z.st ∧ (∀ q, P q → w1.heap.size ≤ q ∧ q < wx.heap.size ∧ q ≠ b5 ∧ q ≠ b6 ∧ q ≠ b7 ∧ ¬ y.at q ∧ ¬ z.at q) ∧ Fr (fun _ => False) w1 wx)
  case first =>
    clear KJ KS
    generalize hT : shL C oc = T at *
    clear hT
    refine region_lateD 12 [27, 28, 29, 30, 31, 32, 33, 34, 35, 5, 6, 7] [(27, .val (.agg #[.slice C.A1 C.l.length C.c1, .slice C.A2 C.n2 C.c2, .slice C.A3 C.sg.length C.c3, .slice C.A4 C.cr.length C.c4, .slice C.A5 C.n5 C.c5, .int .i64 C.t.age, .int .i64 C.t.brake, .int .i64 C.t.hold, .int .i64 C.t.budget])), (28, .val (.int .i64 oc)), (30, .val (.agg #[.slice C.A1 C.l.length C.c1, .slice C.A2 C.n2 C.c2, .slice C.A3 C.sg.length C.c3, .slice C.A4 C.cr.length C.c4, .slice C.A5 C.n5 C.c5, .int .i64 C.t.age, .int .i64 C.t.brake, .int .i64 C.t.hold, .int .i64 C.t.budget])), (31, .val (.int .i64 oc)), (33, .val (.agg #[.slice C.A1 C.l.length C.c1, .slice C.A2 C.n2 C.c2, .slice C.A3 C.sg.length C.c3, .slice C.A4 C.cr.length C.c4, .slice C.A5 C.n5 C.c5, .int .i64 C.t.age, .int .i64 C.t.brake, .int .i64 C.t.hold, .int .i64 C.t.budget])), (34, .val (.int .i64 oc)), (29, spW T w1.heap.size), (32, spW T w1.heap.size), (35, spR T w1.heap.size), (5, .box w1.heap.size 33 #[.slice none 0 0, .slice none 0 0, .slice none 0 0, .slice none 0 0]), (6, .box w1.heap.size 33 #[.slice none 0 0, .slice none 0 0, .slice none 0 0, .slice none 0 0]), (7, .box w1.heap.size 33 #[.slice none 0 0, .slice none 0 0, .slice none 0 0, .slice none 0 0])] apart6 footT (by kernel_rfl) (by kernel_rfl) (by kernel_rfl) ?_ (by kernel_rfl) (by kernel_rfl) (by kernel_rfl) (by decide) (by kernel_rfl) (by kernel_rfl) (by kernel_rfl) ?_ ?_
    · intro p hp v W hv b hb
      have hcase : p = (2, 29) ∨ p = (5, 32) ∨ p = (8, 35) ∨ p = (9, 5) ∨ p = (10, 6) ∨ p = (11, 7) := by simpa [apart6] using hp
      rcases hcase with rfl | rfl | rfl | rfl | rfl | rfl
      · obtain ⟨x, rfl, _, ok, _⟩ := (hv : (spW T w1.heap.size).p v W)
        exact ok.ok.at_lt ((footT_sta (.inl rfl)).1 hb)
      · obtain ⟨x, rfl, _, ok, _⟩ := (hv : (spW T w1.heap.size).p v W)
        exact ok.ok.at_lt ((footT_sta (.inr (.inl rfl))).1 hb)
      · obtain ⟨x, rfl, _, ok, _⟩ := (hv : (spR T w1.heap.size).p v W)
        exact ok.at_lt ((footT_sta (.inr (.inr rfl))).1 hb)
      all_goals
        obtain ⟨q, rfl, i, _⟩ := (hv : (Sp.box w1.heap.size 33 #[.slice none 0 0, .slice none 0 0, .slice none 0 0, .slice none 0 0]).p v W)
        have e := (footT_box (by decide)).1 hb
        have e2 : q = b := by simpa using e
        rw [← e2]
        exact i.lt
    · intro i o ho him listed
      have hcase : i = 0 ∨ i = 1 ∨ i = 2 ∨ i = 3 ∨ i = 4 ∨ i = 5 ∨ i = 6 ∨ i = 7 ∨ i = 8 ∨ i = 9 ∨ i = 10 ∨ i = 11 := by omega
      clear him
      rcases hcase with rfl | rfl | rfl | rfl | rfl | rfl | rfl | rfl | rfl | rfl | rfl | rfl <;> (injection ho with ho; subst ho; intro a' w' _ hf _ hl)
      · have e2 : a'.eval (.tmp 2) = .pointer (some ⟨w.heap.size, 0, none⟩) := hl 2 (by decide)
        have cc := nine_cells (Is.fr (S := fun _ => False) (Is.drew HI1.out) hf id)
        refine l_of rfl (v := .agg #[.slice C.A1 C.l.length C.c1, .slice C.A2 C.n2 C.c2, .slice C.A3 C.sg.length C.c3, .slice C.A4 C.cr.length C.c4, .slice C.A5 C.n5 C.c5, .int .i64 C.t.age, .int .i64 C.t.brake, .int .i64 C.t.hold, .int .i64 C.t.budget]) (w' := w') (by clear hl; revert e2; generalize a'.eval = ev; intro e2; go_simp) (putD (Fr.refl _ _) (no6 (by decide)) rfl)
      · have e2 : a'.eval (.tmp 1) = .int .i64 oc := hl 1 (by decide)
        refine l_of rfl (v := .int .i64 oc) (w' := w') (by clear hl; revert e2; generalize a'.eval = ev; intro e2; go_simp) (putD (Fr.refl _ _) (no6 (by decide)) rfl)
      · have e1 : a'.eval (.tmp 27) = .agg #[.slice C.A1 C.l.length C.c1, .slice C.A2 C.n2 C.c2, .slice C.A3 C.sg.length C.c3, .slice C.A4 C.cr.length C.c4, .slice C.A5 C.n5 C.c5, .int .i64 C.t.age, .int .i64 C.t.brake, .int .i64 C.t.hold, .int .i64 C.t.budget] := hl 27 (by decide)
        have e2 : a'.eval (.tmp 28) = .int .i64 oc := hl 28 (by decide)
        refine l_call2 enters_shape e1 e2 ((KH w' (HC1.out.fr (fr_nil (Fr.refl _ w1).drew hf))).mono fun e w'' ⟨x, he, hst, ok, hn, f⟩ => ⟨_, he, putD f (fun p hp hpi b hb => ?_) ⟨x, rfl, hst, ok, ⟨fun q h => Nat.le_trans hf.size (hn.1 q h), fun q h => Nat.le_trans hf.size (hn.2.1 q h), fun q h => Nat.le_trans hf.size (hn.2.2.1 q h), fun q h => Nat.le_trans hf.size (hn.2.2.2 q h)⟩⟩⟩)
        have hcase : p = (2, 29) ∨ p = (5, 32) ∨ p = (8, 35) ∨ p = (9, 5) ∨ p = (10, 6) ∨ p = (11, 7) := by simpa [apart6] using hp
        rcases hcase with rfl | rfl | rfl | rfl | rfl | rfl <;> first | exact absurd hpi (by decide) | exact hn.at ((footT_sta (.inl rfl)).1 hb)
      · have e2 : a'.eval (.tmp 2) = .pointer (some ⟨w.heap.size, 0, none⟩) := hl 2 (by decide)
        have cc := nine_cells (Is.fr (S := fun _ => False) (Is.drew HI1.out) hf id)
        refine l_of rfl (v := .agg #[.slice C.A1 C.l.length C.c1, .slice C.A2 C.n2 C.c2, .slice C.A3 C.sg.length C.c3, .slice C.A4 C.cr.length C.c4, .slice C.A5 C.n5 C.c5, .int .i64 C.t.age, .int .i64 C.t.brake, .int .i64 C.t.hold, .int .i64 C.t.budget]) (w' := w') (by clear hl; revert e2; generalize a'.eval = ev; intro e2; go_simp) (putD (Fr.refl _ _) (no6 (by decide)) rfl)
      · have e2 : a'.eval (.tmp 1) = .int .i64 oc := hl 1 (by decide)
        refine l_of rfl (v := .int .i64 oc) (w' := w') (by clear hl; revert e2; generalize a'.eval = ev; intro e2; go_simp) (putD (Fr.refl _ _) (no6 (by decide)) rfl)
      · have e1 : a'.eval (.tmp 30) = .agg #[.slice C.A1 C.l.length C.c1, .slice C.A2 C.n2 C.c2, .slice C.A3 C.sg.length C.c3, .slice C.A4 C.cr.length C.c4, .slice C.A5 C.n5 C.c5, .int .i64 C.t.age, .int .i64 C.t.brake, .int .i64 C.t.hold, .int .i64 C.t.budget] := hl 30 (by decide)
        have e2 : a'.eval (.tmp 31) = .int .i64 oc := hl 31 (by decide)
        refine l_call2 enters_shape e1 e2 ((KH w' (HC1.out.fr (fr_nil (Fr.refl _ w1).drew hf))).mono fun e w'' ⟨x, he, hst, ok, hn, f⟩ => ⟨_, he, putD f (fun p hp hpi b hb => ?_) ⟨x, rfl, hst, ok, ⟨fun q h => Nat.le_trans hf.size (hn.1 q h), fun q h => Nat.le_trans hf.size (hn.2.1 q h), fun q h => Nat.le_trans hf.size (hn.2.2.1 q h), fun q h => Nat.le_trans hf.size (hn.2.2.2 q h)⟩⟩⟩)
        have hcase : p = (2, 29) ∨ p = (5, 32) ∨ p = (8, 35) ∨ p = (9, 5) ∨ p = (10, 6) ∨ p = (11, 7) := by simpa [apart6] using hp
        rcases hcase with rfl | rfl | rfl | rfl | rfl | rfl <;> first | exact absurd hpi (by decide) | exact hn.at ((footT_sta (.inr (.inl rfl))).1 hb)
      · have e2 : a'.eval (.tmp 2) = .pointer (some ⟨w.heap.size, 0, none⟩) := hl 2 (by decide)
        have cc := nine_cells (Is.fr (S := fun _ => False) (Is.drew HI1.out) hf id)
        refine l_of rfl (v := .agg #[.slice C.A1 C.l.length C.c1, .slice C.A2 C.n2 C.c2, .slice C.A3 C.sg.length C.c3, .slice C.A4 C.cr.length C.c4, .slice C.A5 C.n5 C.c5, .int .i64 C.t.age, .int .i64 C.t.brake, .int .i64 C.t.hold, .int .i64 C.t.budget]) (w' := w') (by clear hl; revert e2; generalize a'.eval = ev; intro e2; go_simp) (putD (Fr.refl _ _) (no6 (by decide)) rfl)
      · have e2 : a'.eval (.tmp 1) = .int .i64 oc := hl 1 (by decide)
        refine l_of rfl (v := .int .i64 oc) (w' := w') (by clear hl; revert e2; generalize a'.eval = ev; intro e2; go_simp) (putD (Fr.refl _ _) (no6 (by decide)) rfl)
      · have e1 : a'.eval (.tmp 33) = .agg #[.slice C.A1 C.l.length C.c1, .slice C.A2 C.n2 C.c2, .slice C.A3 C.sg.length C.c3, .slice C.A4 C.cr.length C.c4, .slice C.A5 C.n5 C.c5, .int .i64 C.t.age, .int .i64 C.t.brake, .int .i64 C.t.hold, .int .i64 C.t.budget] := hl 33 (by decide)
        have e2 : a'.eval (.tmp 34) = .int .i64 oc := hl 34 (by decide)
        refine l_call2 enters_rshape e1 e2 ((KR w' (HC1.out.fr (fr_nil (Fr.refl _ w1).drew hf))).mono fun e w'' ⟨x, he, hst, ok, hn, f⟩ => ⟨_, he, putD f (fun p hp hpi b hb => ?_) ⟨x, rfl, hst, ok, ⟨fun q h => Nat.le_trans hf.size (hn.1 q h), fun q h => Nat.le_trans hf.size (hn.2.1 q h), fun q h => Nat.le_trans hf.size (hn.2.2.1 q h), fun q h => Nat.le_trans hf.size (hn.2.2.2 q h)⟩⟩⟩)
        have hcase : p = (2, 29) ∨ p = (5, 32) ∨ p = (8, 35) ∨ p = (9, 5) ∨ p = (10, 6) ∨ p = (11, 7) := by simpa [apart6] using hp
        rcases hcase with rfl | rfl | rfl | rfl | rfl | rfl <;> first | exact absurd hpi (by decide) | exact hn.at ((footT_sta (.inr (.inr rfl))).1 hb)
      · refine l_of rfl (v := .pointer (some ⟨w'.heap.size, 0, none⟩)) (w' := w'.alloc (.cells #[.slice none 0 0, .slice none 0 0, .slice none 0 0, .slice none 0 0] 33)) (by clear hl; generalize a'.eval = ev; go_simp) (putD ((Fr.refl _ _).alloc _) (fun p hp hpi b hb => ?_) ⟨_, rfl, Is.new _ _ _, hf.size⟩)
        have hcase : p = (2, 29) ∨ p = (5, 32) ∨ p = (8, 35) ∨ p = (9, 5) ∨ p = (10, 6) ∨ p = (11, 7) := by simpa [apart6] using hp
        rcases hcase with rfl | rfl | rfl | rfl | rfl | rfl <;> first | exact absurd hpi (by decide) | (have e := (footT_box (by decide)).1 hb; have e3 : w'.heap.size = b := by { simpa using e }; omega)
      · refine l_of rfl (v := .pointer (some ⟨w'.heap.size, 0, none⟩)) (w' := w'.alloc (.cells #[.slice none 0 0, .slice none 0 0, .slice none 0 0, .slice none 0 0] 33)) (by clear hl; generalize a'.eval = ev; go_simp) (putD ((Fr.refl _ _).alloc _) (fun p hp hpi b hb => ?_) ⟨_, rfl, Is.new _ _ _, hf.size⟩)
        have hcase : p = (2, 29) ∨ p = (5, 32) ∨ p = (8, 35) ∨ p = (9, 5) ∨ p = (10, 6) ∨ p = (11, 7) := by simpa [apart6] using hp
        rcases hcase with rfl | rfl | rfl | rfl | rfl | rfl <;> first | exact absurd hpi (by decide) | (have e := (footT_box (by decide)).1 hb; have e3 : w'.heap.size = b := by { simpa using e }; omega)
      · refine l_of rfl (v := .pointer (some ⟨w'.heap.size, 0, none⟩)) (w' := w'.alloc (.cells #[.slice none 0 0, .slice none 0 0, .slice none 0 0, .slice none 0 0] 33)) (by clear hl; generalize a'.eval = ev; go_simp) (putD ((Fr.refl _ _).alloc _) (fun p hp hpi b hb => ?_) ⟨_, rfl, Is.new _ _ _, hf.size⟩)
        have hcase : p = (2, 29) ∨ p = (5, 32) ∨ p = (8, 35) ∨ p = (9, 5) ∨ p = (10, 6) ∨ p = (11, 7) := by simpa [apart6] using hp
        rcases hcase with rfl | rfl | rfl | rfl | rfl | rfl <;> first | exact absurd hpi (by decide) | (have e := (footT_box (by decide)).1 hb; have e3 : w'.heap.size = b := by { simpa using e }; omega)
    · intro val w' hf hdis hT
      obtain ⟨x, e29, xst, xok, xnew⟩ := (hT 29 (by decide) : (spW T w1.heap.size).p _ _)
      obtain ⟨y, e32, yst, yok, ynew⟩ := (hT 32 (by decide) : (spW T w1.heap.size).p _ _)
      obtain ⟨z, e35, zst, zok, znew⟩ := (hT 35 (by decide) : (spR T w1.heap.size).p _ _)
      obtain ⟨b5, e5, i5, h5⟩ := (hT 5 (by decide) : (Sp.box _ _ _).p _ _)
      obtain ⟨b6, e6, i6, h6⟩ := (hT 6 (by decide) : (Sp.box _ _ _).p _ _)
      obtain ⟨b7, e7, i7, h7⟩ := (hT 7 (by decide) : (Sp.box _ _ _).p _ _)
      have hd : ∀ p ∈ apart6, ∀ q ∈ apart6, p.2 ≠ q.2 → ∀ b, footT p.2 (val p.2) b → ¬ footT q.2 (val q.2) b := fun p hp q hq hne b => by
        have h := hdis p hp q hq hne b
        rw [laid_eval _ (mem6 p hp).1 (Nat.lt_of_lt_of_eq (mem6 p hp).2 rfl), laid_eval _ (mem6 q hq).1 (Nat.lt_of_lt_of_eq (mem6 q hq).2 rfl)] at h
        exact h
      clear hdis hT
      have dxy : ∀ b, x.at b → ¬ y.at b := fun b h k => hd (2, 29) (by decide) (5, 32) (by decide) (by decide) b (show footT 29 (val 29) b by rw [e29]; exact (footT_sta (.inl rfl)).2 h) (show footT 32 (val 32) b by rw [e32]; exact (footT_sta (.inr (.inl rfl))).2 k)
      have dxz : ∀ b, x.at b → ¬ z.at b := fun b h k => hd (2, 29) (by decide) (8, 35) (by decide) (by decide) b (show footT 29 (val 29) b by rw [e29]; exact (footT_sta (.inl rfl)).2 h) (show footT 35 (val 35) b by rw [e35]; exact (footT_sta (.inr (.inr rfl))).2 k)
      have dx5 : ∀ b, x.at b → b ≠ b5 := fun b h k => hd (2, 29) (by decide) (9, 5) (by decide) (by decide) b (show footT 29 (val 29) b by rw [e29]; exact (footT_sta (.inl rfl)).2 h) (show footT 5 (val 5) b by rw [e5]; exact (footT_box (by decide)).2 (by rw [k]))
      have dx6 : ∀ b, x.at b → b ≠ b6 := fun b h k => hd (2, 29) (by decide) (10, 6) (by decide) (by decide) b (show footT 29 (val 29) b by rw [e29]; exact (footT_sta (.inl rfl)).2 h) (show footT 6 (val 6) b by rw [e6]; exact (footT_box (by decide)).2 (by rw [k]))
      have dx7 : ∀ b, x.at b → b ≠ b7 := fun b h k => hd (2, 29) (by decide) (11, 7) (by decide) (by decide) b (show footT 29 (val 29) b by rw [e29]; exact (footT_sta (.inl rfl)).2 h) (show footT 7 (val 7) b by rw [e7]; exact (footT_box (by decide)).2 (by rw [k]))
      have dy5 : ∀ b, y.at b → b ≠ b5 := fun b h k => hd (5, 32) (by decide) (9, 5) (by decide) (by decide) b (show footT 32 (val 32) b by rw [e32]; exact (footT_sta (.inr (.inl rfl))).2 h) (show footT 5 (val 5) b by rw [e5]; exact (footT_box (by decide)).2 (by rw [k]))
      have dy6 : ∀ b, y.at b → b ≠ b6 := fun b h k => hd (5, 32) (by decide) (10, 6) (by decide) (by decide) b (show footT 32 (val 32) b by rw [e32]; exact (footT_sta (.inr (.inl rfl))).2 h) (show footT 6 (val 6) b by rw [e6]; exact (footT_box (by decide)).2 (by rw [k]))
      have dy7 : ∀ b, y.at b → b ≠ b7 := fun b h k => hd (5, 32) (by decide) (11, 7) (by decide) (by decide) b (show footT 32 (val 32) b by rw [e32]; exact (footT_sta (.inr (.inl rfl))).2 h) (show footT 7 (val 7) b by rw [e7]; exact (footT_box (by decide)).2 (by rw [k]))
      have dz5 : ∀ b, z.at b → b ≠ b5 := fun b h k => hd (8, 35) (by decide) (9, 5) (by decide) (by decide) b (show footT 35 (val 35) b by rw [e35]; exact (footT_sta (.inr (.inr rfl))).2 h) (show footT 5 (val 5) b by rw [e5]; exact (footT_box (by decide)).2 (by rw [k]))
      have dz6 : ∀ b, z.at b → b ≠ b6 := fun b h k => hd (8, 35) (by decide) (10, 6) (by decide) (by decide) b (show footT 35 (val 35) b by rw [e35]; exact (footT_sta (.inr (.inr rfl))).2 h) (show footT 6 (val 6) b by rw [e6]; exact (footT_box (by decide)).2 (by rw [k]))
      have dz7 : ∀ b, z.at b → b ≠ b7 := fun b h k => hd (8, 35) (by decide) (11, 7) (by decide) (by decide) b (show footT 35 (val 35) b by rw [e35]; exact (footT_sta (.inr (.inr rfl))).2 h) (show footT 7 (val 7) b by rw [e7]; exact (footT_box (by decide)).2 (by rw [k]))
      have d56 : b5 ≠ b6 := fun k => hd (9, 5) (by decide) (10, 6) (by decide) (by decide) b5 (show footT 5 (val 5) b5 by rw [e5]; exact (footT_box (by decide)).2 (rfl)) (show footT 6 (val 6) b5 by rw [e6]; exact (footT_box (by decide)).2 (by rw [k]))
      have d57 : b5 ≠ b7 := fun k => hd (9, 5) (by decide) (11, 7) (by decide) (by decide) b5 (show footT 5 (val 5) b5 by rw [e5]; exact (footT_box (by decide)).2 (rfl)) (show footT 7 (val 7) b5 by rw [e7]; exact (footT_box (by decide)).2 (by rw [k]))
      have d67 : b6 ≠ b7 := fun k => hd (10, 6) (by decide) (11, 7) (by decide) (by decide) b6 (show footT 6 (val 6) b6 by rw [e6]; exact (footT_box (by decide)).2 (rfl)) (show footT 7 (val 7) b6 by rw [e7]; exact (footT_box (by decide)).2 (by rw [k]))

      clear hd
      simp only [laidL, List.foldl_cons, List.foldl_nil, e29, e32, e35, e5, e6, e7]
      generalize val 27 = v27; generalize val 28 = v28; generalize val 30 = v30; generalize val 31 = v31; generalize val 33 = v33; generalize val 34 = v34
      simp only [List.setIfInBounds_toArray, List.set_cons_succ, List.set_cons_zero]
      unfold Sta.val
      obtain ⟨m0, m1, m2, m3⟩ := four_cells i5
      have z0 := i5.frozen 0
      have z1 := i5.frozen 1
      have z2 := i5.frozen 2
      have z3 := i5.frozen 3
      have is5 := put4_is i5 (.slice x.occ.A x.occ.l.length x.occ.c) (.slice x.pos.A x.pos.l.length x.pos.c) (.slice x.shut.A x.shut.l.length x.shut.c) (.slice x.lamp.A x.lamp.l.length x.lamp.c)
      have fs5 := put4_fr w' b5 (.slice x.occ.A x.occ.l.length x.occ.c) (.slice x.pos.A x.pos.l.length x.pos.c) (.slice x.shut.A x.shut.l.length x.shut.c) (.slice x.lamp.A x.lamp.l.length x.lamp.c)
      refine tail1s (n := 2) rfl rfl rfl (w' := World.put4 w' b5 (.slice x.occ.A x.occ.l.length x.occ.c) (.slice x.pos.A x.pos.l.length x.pos.c) (.slice x.shut.A x.shut.l.length x.shut.c) (.slice x.lamp.A x.lamp.l.length x.lamp.c)) (by unfold World.put4; go_simp) ?_
      clear m0 m1 m2 m3 z0 z1 z2 z3
      generalize World.put4 w' b5 (.slice x.occ.A x.occ.l.length x.occ.c) (.slice x.pos.A x.pos.l.length x.pos.c) (.slice x.shut.A x.shut.l.length x.shut.c) (.slice x.lamp.A x.lamp.l.length x.lamp.c) = W1 at *
      have i6 := i6.fr fs5 (fun e => d56 e.symm)
      have i7 := i7.fr fs5 (fun e => d57 e.symm)
      obtain ⟨m0, m1, m2, m3⟩ := four_cells i6
      have z0 := i6.frozen 0
      have z1 := i6.frozen 1
      have z2 := i6.frozen 2
      have z3 := i6.frozen 3
      have is6 := put4_is i6 (.slice y.occ.A y.occ.l.length y.occ.c) (.slice y.pos.A y.pos.l.length y.pos.c) (.slice y.shut.A y.shut.l.length y.shut.c) (.slice y.lamp.A y.lamp.l.length y.lamp.c)
      have fs6 := put4_fr W1 b6 (.slice y.occ.A y.occ.l.length y.occ.c) (.slice y.pos.A y.pos.l.length y.pos.c) (.slice y.shut.A y.shut.l.length y.shut.c) (.slice y.lamp.A y.lamp.l.length y.lamp.c)
      refine tail1s (n := 1) rfl rfl rfl (w' := World.put4 W1 b6 (.slice y.occ.A y.occ.l.length y.occ.c) (.slice y.pos.A y.pos.l.length y.pos.c) (.slice y.shut.A y.shut.l.length y.shut.c) (.slice y.lamp.A y.lamp.l.length y.lamp.c)) (by unfold World.put4; go_simp) ?_
      clear m0 m1 m2 m3 z0 z1 z2 z3
      generalize World.put4 W1 b6 (.slice y.occ.A y.occ.l.length y.occ.c) (.slice y.pos.A y.pos.l.length y.pos.c) (.slice y.shut.A y.shut.l.length y.shut.c) (.slice y.lamp.A y.lamp.l.length y.lamp.c) = W2 at *
      have i7 := i7.fr fs6 (fun e => d67 e.symm)
      obtain ⟨m0, m1, m2, m3⟩ := four_cells i7
      have z0 := i7.frozen 0
      have z1 := i7.frozen 1
      have z2 := i7.frozen 2
      have z3 := i7.frozen 3
      have is7 := put4_is i7 (.slice z.occ.A z.occ.l.length z.occ.c) (.slice z.pos.A z.pos.l.length z.pos.c) (.slice z.shut.A z.shut.l.length z.shut.c) (.slice z.lamp.A z.lamp.l.length z.lamp.c)
      have fs7 := put4_fr W2 b7 (.slice z.occ.A z.occ.l.length z.occ.c) (.slice z.pos.A z.pos.l.length z.pos.c) (.slice z.shut.A z.shut.l.length z.shut.c) (.slice z.lamp.A z.lamp.l.length z.lamp.c)
      refine tail1 rfl rfl rfl (w' := World.put4 W2 b7 (.slice z.occ.A z.occ.l.length z.occ.c) (.slice z.pos.A z.pos.l.length z.pos.c) (.slice z.shut.A z.shut.l.length z.shut.c) (.slice z.lamp.A z.lamp.l.length z.lamp.c)) (by unfold World.put4; go_simp) ?_
      clear m0 m1 m2 m3 z0 z1 z2 z3
      generalize World.put4 W2 b7 (.slice z.occ.A z.occ.l.length z.occ.c) (.slice z.pos.A z.pos.l.length z.pos.c) (.slice z.shut.A z.shut.l.length z.shut.c) (.slice z.lamp.A z.lamp.l.length z.lamp.c) = W3 at *
      trace_state
      go_wp2_with fail
      go_meet
      case rel =>
        have I5 := (is5.fr fs6 d56).fr fs7 d57
        have I6 := is6.fr fs7 d67
        have F : Fr (fun q => q = b5 ∨ q = b6 ∨ q = b7) w' W3 := ((fs5.mono fun _ _ h => .inl h).trans (fs6.mono fun _ _ h => .inr (.inl h)) fun _ _ h => h).trans (fs7.mono fun _ _ h => .inr (.inr h)) fun _ _ h => h
        have n1 : ∀ q, x.at q → ¬ (q = b5 ∨ q = b6 ∨ q = b7) := fun q h e => by
          rcases e with e | e | e
          · exact dx5 q h e
          · exact dx6 q h e
          · exact dx7 q h e
        refine ⟨b5, b6, b7, x, y, z, x.at, rfl, rfl, rfl, I5, I6, is7, xok.wp4.fr F n1, xok.ok.fr2 F n1, yok.ok.fr2 F fun q h e => ?_, zok.fr2 F fun q h e => ?_, yst.trans zst.symm, fun q h => ⟨xnew.at h, Nat.lt_of_lt_of_le (xok.ok.at_lt h) F.size, dx5 q h, dx6 q h, dx7 q h, dxy q h, dxz q h⟩, ?_⟩
        · rcases e with e | e | e
          · exact dy5 q h e
          · exact dy6 q h e
          · exact dy7 q h e
        · rcases e with e | e | e
          · exact dz5 q h e
          · exact dz6 q h e
          · exact dz7 q h e
        · exact ((Fr.refl (fun _ => False) w1).drew.trans hf fun _ _ h => h).trans F fun q hq e => by
            rcases e with e | e | e <;> omega
  case rest =>
    obtain ⟨b5, b6, b7, x, y, z, P, rfl, rfl, rfl, I5, I6, I7, hw, ox, oy, oz, eyz, hP, F⟩ := hcut
    have t0 : x.occ.l.length ≤ 17592186044416 := ox.occ.le
    have t1 : x.pos.l.length ≤ 17592186044416 := ox.pos.le
    have t2 : x.shut.l.length ≤ 17592186044416 := ox.shut.le
    have t3 : x.lamp.l.length ≤ 17592186044416 := ox.lamp.le
    unfold Sta.cells at I5 I6 I7
    obtain ⟨g0, g1, g2, g3⟩ := four_cells I5
    have LE : List (Option Addr × Nat × Nat) := []
    have HF := Lib.hid (fr_nil HF1.out F)
    have HI := Lib.hid (HI1.out.fr F id)
    have HW := Lib.hid hw
    have H6 := Lib.hid I6
    have H7 := Lib.hid I7
    have HY := Lib.hid oy
    have HZ := Lib.hid oz
    have HP := Lib.hid hP
    have HT := Lib.hid (And.intro t0 (And.intro t1 (And.intro t2 t3)))
    have HN : Hid (¬ P wc.heap.size) := Lib.hid fun h => by have := (hP _ h).2.1; omega
    have IL := Lib.hid (Is.new wc 25 #[.slice x.occ.A x.occ.l.length x.occ.c, .slice x.pos.A x.pos.l.length x.pos.c, .slice x.shut.A x.shut.l.length x.shut.c, .slice x.lamp.A x.lamp.l.length x.lamp.c])
    have fal := (Fr.refl (fun _ => False) wc).alloc (.cells #[.slice x.occ.A x.occ.l.length x.occ.c, .slice x.pos.A x.pos.l.length x.pos.c, .slice x.shut.A x.shut.l.length x.shut.c, .slice x.lamp.A x.lamp.l.length x.lamp.c] 25)
    have FAL := Lib.hid fal
    clear LE I5 I6 I7 hw ox oy oz F HF1 HI1 fal hP t0 t1 t2 t3 HC1
    go_wp2_with fail
    clear g0 g1 g2 g3
    generalize wc.alloc _ = wd at *
    obtain ⟨ib, hib⟩ : ∃ ib, ib = wc.heap.size := ⟨_, rfl⟩
    rw [← hib] at IL HN ⊢
    clear hib
    go_loopw [46] (fun v46 wr => ∃ i : Nat, i ≤ 4 ∧ v46 = .int .i64 (i : Nat) ∧ Wp4 wr P x ∧ Fr P wd wr) (fun v _ => 4 - (intOf v).toNat)
    case atStart => exact ⟨0, by omega, rfl, HW.out.fr FAL.out fun _ _ => id, Fr.refl _ _⟩
    case round =>
      clear HW
      obtain ⟨i, hi, rfl, hw, fr⟩ := hrel
      by_cases h4 : i < 4
      · have hi4 : (i : Int) < 4 := by omega
        obtain ⟨A, n, c, hcell, hwp, hn⟩ : ∃ A n c, wr.cell? ⟨ib, i, none⟩ = some (.slice A n c) ∧ Wp wr P A n ∧ n ≤ 17592186044416 := by
          have il := IL.out.fr fr HN.out
          have hc : i = 0 ∨ i = 1 ∨ i = 2 ∨ i = 3 := by omega
          rcases hc with rfl | rfl | rfl | rfl
          · exact ⟨_, _, _, (il.cell 0).trans rfl, hw.1, HT.out.1⟩
          · exact ⟨_, _, _, (il.cell 1).trans rfl, hw.2.1, HT.out.2.1⟩
          · exact ⟨_, _, _, (il.cell 2).trans rfl, hw.2.2.1, HT.out.2.2.1⟩
          · exact ⟨_, _, _, (il.cell 3).trans rfl, hw.2.2.2, HT.out.2.2.2⟩
        have HW := Lib.hid hw
        have HWP := Lib.hid hwp
        have HFR := Lib.hid fr
        clear hw hwp fr
        go_wp2_with fail
        clear hcell
        go_loopw [52] (fun v52 wq => ∃ k : Nat, k ≤ n ∧ v52 = .int .i64 (k : Nat) ∧ Wp wq P A n ∧ Wp4 wq P x ∧ Fr P wd wq) (fun v _ => n - (intOf v).toNat)
        case atStart => exact ⟨0, Nat.zero_le _, rfl, HWP.out, HW.out, HFR.out⟩
        case round =>
          clear HWP HW HFR
          obtain ⟨k, hk, rfl, hwp, hw, fr⟩ := hrel
          by_cases hkn : k < n
          · have hkk : (k : Int) < (n : Int) := by omega
            obtain ⟨g, v, rfl, hc, hz, hg⟩ := hwp.cell hkn
            have HWP := Lib.hid (hwp.set (g := g) (k := k) (.int .i64 (-9)))
            have HW := Lib.hid (hw.set (g := g) (k := k) (.int .i64 (-9)))
            have HFR := Lib.hid (fr.setCell (p := ⟨g, k, none⟩) (.inl hg) (.int .i64 (-9)))
            clear hwp hw fr
            go_wp2_with fail
            go_roundw
            case rel => exact ⟨k + 1, by omega, by go_num, HWP.out, HW.out, HFR.out⟩
            case measure => simp [intOf]; omega
          · have hkk : ¬ (k : Int) < (n : Int) := by omega
            have HW := Lib.hid hw
            have HFR := Lib.hid fr
            clear hwp hw fr
            go_wp2_with fail
            go_roundw
            case rel => exact ⟨i + 1, by omega, by go_num, HW.out, HFR.out⟩
            case measure => simp [intOf]; omega
      · have hi4 : ¬ (i : Int) < 4 := by omega
        have nb6 : ¬ P b6 := fun h => (HP.out _ h).2.2.2.1 rfl
        have nb7 : ¬ P b7 := fun h => (HP.out _ h).2.2.2.2.1 rfl
        have j6 := (H6.out.fr FAL.out id).fr fr nb6
        have j7 := (H7.out.fr FAL.out id).fr fr nb7
        have HFW : Hid (Fr (fun _ => False) w wr) := Lib.hid ((fr_nil HF.out FAL.out).trans fr fun q hq h => by have := (HP.out _ h).1; have := HLT.out; omega)
        have HIC := Lib.hid ((HI.out.fr FAL.out id).fr fr fun h => by have := (HP.out _ h).1; have := HLT.out; omega)
        have K9 := KS y z wr ((HY.out.fr FAL.out).fr2 fr fun k hk h => (HP.out _ h).2.2.2.2.2.1 hk) ((HZ.out.fr FAL.out).fr2 fr fun k hk h => (HP.out _ h).2.2.2.2.2.2 hk) eyz
        unfold Sta.val at K9
        obtain ⟨g0, g1, g2, g3⟩ := four_cells j6
        obtain ⟨d0, d1, d2, d3⟩ := four_cells j7
        clear j6 j7 hw fr KS IL HN HF HI HP H6 H7 HY HZ HT FAL
        go_wp2_with fail
        refine K9.mono ?_
        rintro e w9 ⟨rfl, f9⟩
        have HF9 := Lib.hid (fr_nil HFW.out f9)
        have HI9 := Lib.hid (HIC.out.fr f9 id)
        obtain ⟨p0, p1, p2, p3, p4, p5, p6, p7, p8⟩ := nine_cells HI9.out
        clear K9 g0 g1 g2 g3 d0 d1 d2 d3 HFW HIC f9
        go_wp2_with fail
        clear p0 p1 p2 p3 p4 p5 p6 p7 p8
        have hl9 : (C.l.length : Int) ≤ 17592186044416 := by have := HC.out.b1; omega
        go_loopw [67] (fun v67 wq => ∃ s : Nat, s ≤ C.l.length ∧ v67 = .int .i64 (s : Nat) ∧ (∀ i (h : i < C.l.length), i < s → 0 ≤ C.l[i].oc ∧ C.l[i].oc < 4) ∧ Fr (fun _ => False) w9 wq) (fun v _ => C.l.length - (intOf v).toNat)
        case atStart => exact ⟨0, Nat.zero_le _, rfl, fun i h h0 => by omega, Fr.refl _ _⟩
        case round =>
          obtain ⟨s, hs, rfl, hall, fr⟩ := hrel
          by_cases hsl : s < C.l.length
          · have hss : (s : Int) < (C.l.length : Int) := by omega
            obtain ⟨gs, os, hA, _, c0, c1, c2⟩ := rd_sec (HC.out.fr (fr_nil HF9.out fr)).secs hsl
            have HFR := Lib.hid (fr.alloc (.cells #[.int .i64 C.l[s].kind, .int .i64 C.l[s].oc, .int .i64 C.l[s].line] 38))
            obtain ⟨g0, g1, g2⟩ := three6 (Is.new wr 38 #[.int .i64 C.l[s].kind, .int .i64 C.l[s].oc, .int .i64 C.l[s].line])
            have HALL : Hid (0 ≤ C.l[s].oc → C.l[s].oc < 4 → ∀ i (h : i < C.l.length), i < s + 1 → 0 ≤ C.l[i].oc ∧ C.l[i].oc < 4) := Lib.hid fun h0 h4 i h hi => by
              by_cases e : i = s
              · subst e
                exact ⟨h0, h4⟩
              · exact hall i h (by omega)
            clear hall fr
            generalize C.l[s] = q at *
            rw [hA]
            by_cases h0 : q.oc < 0
            · have e0 : decide (q.oc < 0) = true := decide_eq_true h0
              go_wp2_with fail
              go_ret
              exact ⟨rfl, fr_nil HF9.out HFR.out⟩
            · have e0 : decide (q.oc < 0) = false := decide_eq_false h0
              by_cases h4 : 4 ≤ q.oc
              · have e4 : decide (4 ≤ q.oc) = true := decide_eq_true h4
                go_wp2_with fail
                go_ret
                exact ⟨rfl, fr_nil HF9.out HFR.out⟩
              · have e4 : decide (4 ≤ q.oc) = false := decide_eq_false h4
                go_wp2_with fail
                go_roundw
                case rel => exact ⟨s + 1, by omega, by go_num, HALL.out (by omega) (by omega), HFR.out⟩
                case measure => simp [intOf]; omega
          · have hss : ¬ (s : Int) < (C.l.length : Int) := by omega
            have hall' : ∀ s ∈ C.l, 0 ≤ s.oc ∧ s.oc < 4 := fun q hq => by
              obtain ⟨i, hi, rfl⟩ := List.getElem_of_mem hq
              exact hall i hi (by omega)
            have HF2 := Lib.hid (fr_nil HF9.out fr)
            have HI2 := Lib.hid (HI9.out.fr fr id)
            have h1 := in_all hall'
            have h2 := pt_all hall'
            have h3 := cr_all hall' C.cr
            have h5 := sg_all hall' C.sg
            have H1 := Lib.hid h1
            have H2 := Lib.hid h2
            have H3 := Lib.hid h3
            have H5 := Lib.hid h5
            clear hall hall' HI9 HF9 fr h1 h2 h3 h5
            go_wp2_with fail
            have hb0 : ∀ k : Nat, (fun k => (idx (inB (k : Int)) 0 C.l).length) k ≤ 17592186044416 := fun k => Nat.le_trans (idx_le _ _ _) HC.out.b1
            have hb1 : ∀ k : Nat, (fun k => (idx (ptB (k : Int)) 0 C.l).length) k ≤ 17592186044416 := fun k => Nat.le_trans (idx_le _ _ _) HC.out.b1
            have hb2 : ∀ k : Nat, (fun k => (idx (hasB C.l (k : Int)) 0 C.cr).length) k ≤ 17592186044416 := fun k => Nat.le_trans (idx_le _ _ _) HC.out.b4
            have hb3 : ∀ k : Nat, (fun k => (idx (sgB C.l (k : Int)) 0 C.sg).length) k ≤ 17592186044416 := fun k => Nat.le_trans (idx_le _ _ _) HC.out.b3
            have HU0 := Lib.hid (sumN_le hb0)
            have HU1 := Lib.hid (sumN_le hb1)
            have HU2 := Lib.hid (sumN_le hb2)
            have HU3 := Lib.hid (sumN_le hb3)
            have HB0 := Lib.hid hb0
            have HB1 := Lib.hid hb1
            have HB2 := Lib.hid hb2
            have HB3 := Lib.hid hb3
            obtain ⟨wz, hwz⟩ : ∃ wz, wz = wr := ⟨_, rfl⟩
            rw [← hwz] at HF2 HI2 ⊢
            clear hb0 hb1 hb2 hb3 hss hsl hwz
            go_loopw [13, 14, 15, 16, 17] (fun v13 v14 v15 v16 v17 wr => ∃ j : Nat, j ≤ 4 ∧ v17 = .int .i64 (j : Nat) ∧ v13 = .int .i64 (sumN (fun k => (idx (inB (k : Int)) 0 C.l).length) j : Nat) ∧ v14 = .int .i64 (sumN (fun k => (idx (ptB (k : Int)) 0 C.l).length) j : Nat) ∧ v15 = .int .i64 (sumN (fun k => (idx (hasB C.l (k : Int)) 0 C.cr).length) j : Nat) ∧ v16 = .int .i64 (sumN (fun k => (idx (sgB C.l (k : Int)) 0 C.sg).length) j : Nat) ∧ Fr (fun _ => False) wz wr) (fun _ _ _ _ v _ => 4 - (intOf v).toNat)
            case atStart => exact ⟨0, Nat.zero_le _, rfl, rfl, rfl, rfl, rfl, Fr.refl _ _⟩
            case round =>
              obtain ⟨j, hj, rfl, rfl, rfl, rfl, rfl, fr⟩ := hrel
              by_cases hj4 : j < 4
              · have hjj : (j : Int) < 4 := by omega
                have KX := KJ wr (HC.out.fr (fr_nil HF2.out fr)) j
                have hT : shL C (j : Int) = ⟨idx (inB (j : Int)) 0 C.l, idx (ptB (j : Int)) 0 C.l, idx (hasB C.l (j : Int)) 0 C.cr, idx (sgB C.l (j : Int)) 0 C.sg⟩ := rfl
                rw [hT] at KX
                have HIQ := Lib.hid (HI2.out.fr fr id)
                obtain ⟨p0, p1, p2, p3, p4, p5, p6, p7, p8⟩ := nine_cells HIQ.out
                have HFR := Lib.hid fr
                have u0 := HU0.out j
                have b0 := HB0.out j
                have S0 : Hid (sumN (fun k => (idx (inB (k : Int)) 0 C.l).length) (j + 1) = sumN (fun k => (idx (inB (k : Int)) 0 C.l).length) j + (idx (inB (j : Int)) 0 C.l).length) := Lib.hid rfl
                have u1 := HU1.out j
                have b1 := HB1.out j
                have S1 : Hid (sumN (fun k => (idx (ptB (k : Int)) 0 C.l).length) (j + 1) = sumN (fun k => (idx (ptB (k : Int)) 0 C.l).length) j + (idx (ptB (j : Int)) 0 C.l).length) := Lib.hid rfl
                have u2 := HU2.out j
                have b2 := HB2.out j
                have S2 : Hid (sumN (fun k => (idx (hasB C.l (k : Int)) 0 C.cr).length) (j + 1) = sumN (fun k => (idx (hasB C.l (k : Int)) 0 C.cr).length) j + (idx (hasB C.l (j : Int)) 0 C.cr).length) := Lib.hid rfl
                have u3 := HU3.out j
                have b3 := HB3.out j
                have S3 : Hid (sumN (fun k => (idx (sgB C.l (k : Int)) 0 C.sg).length) (j + 1) = sumN (fun k => (idx (sgB C.l (k : Int)) 0 C.sg).length) j + (idx (sgB C.l (j : Int)) 0 C.sg).length) := Lib.hid rfl
                generalize sumN (fun k => (idx (inB (k : Int)) 0 C.l).length) j = a0 at *
                generalize sumN (fun k => (idx (ptB (k : Int)) 0 C.l).length) j = a1 at *
                generalize sumN (fun k => (idx (hasB C.l (k : Int)) 0 C.cr).length) j = a2 at *
                generalize sumN (fun k => (idx (sgB C.l (k : Int)) 0 C.sg).length) j = a3 at *
                have c0 : (a0 : Int) + ((idx (inB (j : Int)) 0 C.l).length : Int) ≤ 140737488355328 := by simp only at b0; omega
                have c1 : (a1 : Int) + ((idx (ptB (j : Int)) 0 C.l).length : Int) ≤ 140737488355328 := by simp only at b1; omega
                have c2 : (a2 : Int) + ((idx (hasB C.l (j : Int)) 0 C.cr).length : Int) ≤ 140737488355328 := by simp only at b2; omega
                have c3 : (a3 : Int) + ((idx (sgB C.l (j : Int)) 0 C.sg).length : Int) ≤ 140737488355328 := by simp only at b3; omega
                clear fr hT u0 u1 u2 u3 b0 b1 b2 b3
                go_wp2_with fail
                refine KX.mono ?_
                rintro e w3 ⟨x0, x1, x2, x3, rfl, hst, ok, hnew, f3⟩
                simp only [Sta.val]
                unfold Sta.st at hst
                injection hst with h0 h1 h2 h3
                simp only at h0 h1 h2 h3
                rw [← h0] at c0 S0
                rw [← h1] at c1 S1
                rw [← h2] at c2 S2
                rw [← h3] at c3 S3
                have HF4 := Lib.hid ((fr_nil HFR.out f3).alloc (.cells #[.slice x0.A x0.l.length x0.c, .slice x1.A x1.l.length x1.c, .slice x2.A x2.l.length x2.c, .slice x3.A x3.l.length x3.c] 33))
                obtain ⟨g0, g1, g2, g3⟩ := four_cells (Is.new w3 33 #[.slice x0.A x0.l.length x0.c, .slice x1.A x1.l.length x1.c, .slice x2.A x2.l.length x2.c, .slice x3.A x3.l.length x3.c])
                have z0 : 0 ≤ (a0 : Int) := by omega
                have z1 : 0 ≤ (a1 : Int) := by omega
                have z2 : 0 ≤ (a2 : Int) := by omega
                have z3 : 0 ≤ (a3 : Int) := by omega
                clear f3 HFR ok hnew h0 h1 h2 h3 KX p0 p1 p2 p3 p4 p5 p6 p7 p8
                go_wp2_with fail
                go_roundw
                case rel => exact ⟨j + 1, by omega, by go_num, by rw [S0.out]; go_num, by rw [S1.out]; go_num, by rw [S2.out]; go_num, by rw [S3.out]; go_num, HF4.out⟩
                case measure => simp [intOf]; omega
              · have hje : j = 4 := by omega
                subst hje
                have HF3 := Lib.hid (fr_nil HF2.out fr)
                have HI3 := Lib.hid (HI2.out.fr fr id)
                have e1 := H1.out
                have e2 := H2.out
                have e3 := H3.out
                have e5 := H5.out
                try simp only at e1 e2 e3 e5
                rw [e1, e2, e3, e5]
                have hpl : (C.l.filter ptsB).length ≤ C.l.length := List.length_filter_le _ _
                obtain ⟨p0, p1, p2, p3, p4, p5, p6, p7, p8⟩ := nine_cells HI3.out
                clear fr HU0 HU1 HU2 HU3 HB0 HB1 HB2 HB3 H1 H2 H3 H5 HF2 HI2 KJ e1 e2 e3 e5 hpl
                go_wp2_with fail
                clear p0 p1 p2 p3 p4 p5 p6 p7 p8
                obtain ⟨wy, hwy⟩ : ∃ wy, wy = wr := ⟨_, rfl⟩
                rw [← hwy] at HF3 HI3 ⊢
                clear hwy
                go_loopw [14, 110] (fun v14 v110 wr => ∃ s : Nat, s ≤ C.l.length ∧ v110 = .int .i64 (s : Nat) ∧ v14 = .int .i64 (((C.l.drop s).filter ptsB).length : Nat) ∧ Fr (fun _ => False) wy wr) (fun _ v _ => C.l.length - (intOf v).toNat)
                case atStart => exact ⟨0, Nat.zero_le _, rfl, rfl, Fr.refl _ _⟩
                case round =>
                  obtain ⟨s, hs, rfl, rfl, fr⟩ := hrel
                  by_cases hsl : s < C.l.length
                  · have hss : (s : Int) < (C.l.length : Int) := by omega
                    obtain ⟨gs, os, hA, _, c0, c1, c2⟩ := rd_sec (HC.out.fr (fr_nil HF3.out fr)).secs hsl
                    have HFR := Lib.hid (fr.alloc (.cells #[.int .i64 C.l[s].kind, .int .i64 C.l[s].oc, .int .i64 C.l[s].line] 38))
                    obtain ⟨g0, g1, g2⟩ := three6 (Is.new wr 38 #[.int .i64 C.l[s].kind, .int .i64 C.l[s].oc, .int .i64 C.l[s].line])
                    have hd := drop_count ptsB hsl
                    have hle : ((C.l.drop s).filter ptsB).length ≤ C.l.length := Nat.le_trans (List.length_filter_le _ _) (by rw [List.length_drop]; omega)
                    have HD := Lib.hid hd
                    generalize ((C.l.drop s).filter ptsB).length = m at *
                    have hm9 : (m : Int) ≤ 17592186044416 := by omega
                    have hm0 : (0 : Int) ≤ (m : Int) := by omega
                    clear fr hd hle
                    generalize C.l[s] = q at *
                    rw [hA]
                    by_cases hk : q.kind = 1
                    · have ek : (q.kind == 1) = true := by simpa using hk
                      have hm := HD.out
                      rw [if_pos (by simp [ptsB, hk])] at hm
                      have HM := Lib.hid hm
                      clear hm hk
                      go_wp2_with fail
                      go_roundw
                      case rel => exact ⟨s + 1, by omega, by go_num, by have := HM.out; rw [this]; go_num, HFR.out⟩
                      case measure => simp [intOf]; omega
                    · have ek : (q.kind == 1) = false := by simpa using hk
                      have hm := HD.out
                      rw [if_neg (by simp [ptsB, hk])] at hm
                      have HM := Lib.hid hm
                      clear hm hk
                      go_wp2_with fail
                      go_roundw
                      case rel => exact ⟨s + 1, by omega, by go_num, by have := HM.out; rw [this, Nat.zero_add], HFR.out⟩
                      case measure => simp [intOf]; omega
                  · have hse : s = C.l.length := by omega
                    subst hse
                    rw [List.drop_length]
                    have HF4 := Lib.hid (fr_nil HF3.out fr)
                    have HI4 := Lib.hid (HI3.out.fr fr id)
                    obtain ⟨p0, p1, p2, p3, p4, p5, p6, p7, p8⟩ := nine_cells HI4.out
                    have hc9 : (C.cr.length : Int) ≤ 17592186044416 := by have := HC.out.b4; omega
                    clear fr HF3 HI3 hsl
                    go_wp2_with fail
                    clear p0 p1 p2 p3 p4 p5 p6 p7 p8
                    obtain ⟨wx2, hwx⟩ : ∃ wx2, wx2 = wr := ⟨_, rfl⟩
                    rw [← hwx] at HF4 HI4 ⊢
                    clear hwx
                    go_loopw [15, 123] (fun v15 v123 wr => ∃ s : Nat, s ≤ C.cr.length ∧ v123 = .int .i64 (s : Nat) ∧ v15 = .int .i64 (((C.cr.drop s).filter (inlB C.l.length)).length : Nat) ∧ Fr (fun _ => False) wx2 wr) (fun _ v _ => C.cr.length - (intOf v).toNat)
                    case atStart => exact ⟨0, Nat.zero_le _, rfl, rfl, Fr.refl _ _⟩
                    case round =>
                      obtain ⟨s, hs, rfl, rfl, fr⟩ := hrel
                      have HI5 := Lib.hid (HI4.out.fr fr id)
                      obtain ⟨p0, p1, p2, p3, p4, p5, p6, p7, p8⟩ := nine_cells HI5.out
                      by_cases hsl : s < C.cr.length
                      · have hss : (s : Int) < (C.cr.length : Int) := by omega
                        obtain ⟨gs, os, hA, _, c0⟩ := rd_int (HC.out.fr (fr_nil HF4.out fr)).crs hsl
                        have hd := drop_count (inlB C.l.length) hsl
                        have hle : ((C.cr.drop s).filter (inlB C.l.length)).length ≤ C.cr.length := Nat.le_trans (List.length_filter_le _ _) (by rw [List.length_drop]; omega)
                        have HD := Lib.hid hd
                        have HFR := Lib.hid fr
                        generalize ((C.cr.drop s).filter (inlB C.l.length)).length = m at *
                        have hm9 : (m : Int) ≤ 17592186044416 := by omega
                        have hm0 : (0 : Int) ≤ (m : Int) := by omega
                        clear fr hd hle
                        generalize C.cr[s] = q at *
                        rw [hA]
                        by_cases hq : 0 ≤ q
                        · have d1 : decide (0 ≤ q) = true := decide_eq_true hq
                          by_cases hr : q < (C.l.length : Int)
                          · have d2 : decide (q < (C.l.length : Int)) = true := decide_eq_true hr
                            have hm := HD.out
                            rw [if_pos (by simp [inlB, hq, hr])] at hm
                            have HM := Lib.hid hm
                            clear hm
                            go_wp2_with fail
                            go_roundw
                            case rel => exact ⟨s + 1, by omega, by go_num, by have := HM.out; rw [this]; go_num, HFR.out⟩
                            case measure => simp [intOf]; omega
                          · have d2 : decide (q < (C.l.length : Int)) = false := decide_eq_false hr
                            have hm := HD.out
                            rw [if_neg (by simp [inlB]; omega)] at hm
                            have HM := Lib.hid hm
                            clear hm
                            go_wp2_with fail
                            go_roundw
                            case rel => exact ⟨s + 1, by omega, by go_num, by have := HM.out; rw [this, Nat.zero_add], HFR.out⟩
                            case measure => simp [intOf]; omega
                        · have d1 : decide (0 ≤ q) = false := decide_eq_false hq
                          have hm := HD.out
                          rw [if_neg (by simp [inlB, hq])] at hm
                          have HM := Lib.hid hm
                          clear hm
                          go_wp2_with fail
                          go_roundw
                          case rel => exact ⟨s + 1, by omega, by go_num, by have := HM.out; rw [this, Nat.zero_add], HFR.out⟩
                          case measure => simp [intOf]; omega
                      · have hse : s = C.cr.length := by omega
                        subst hse
                        rw [List.drop_length]
                        have HF5 := Lib.hid (fr_nil HF4.out fr)
                        have hg9 : (C.sg.length : Int) ≤ 17592186044416 := by have := HC.out.b3; omega
                        clear fr HF4 HI4 hsl
                        go_wp2_with fail
                        clear p0 p1 p2 p3 p4 p5 p6 p7 p8
                        obtain ⟨wx3, hwx⟩ : ∃ wx3, wx3 = wr := ⟨_, rfl⟩
                        rw [← hwx] at HF5 HI5 ⊢
                        clear hwx
                        go_loopw [16, 142] (fun v16 v142 wr => ∃ s : Nat, s ≤ C.sg.length ∧ v142 = .int .i64 (s : Nat) ∧ v16 = .int .i64 (((C.sg.drop s).filter fun x => inlB C.l.length x.sec).length : Nat) ∧ Fr (fun _ => False) wx3 wr) (fun _ v _ => C.sg.length - (intOf v).toNat)
                        case atStart => exact ⟨0, Nat.zero_le _, rfl, rfl, Fr.refl _ _⟩
                        case round =>
                          obtain ⟨s, hs, rfl, rfl, fr⟩ := hrel
                          by_cases hsl : s < C.sg.length
                          · have hss : (s : Int) < (C.sg.length : Int) := by omega
                            obtain ⟨gs, os, hA, _, c0, c1⟩ := rd_sg (HC.out.fr (fr_nil HF5.out fr)).sigs hsl
                            have HFR := Lib.hid (fr.alloc (.cells #[.int .i64 C.sg[s].sec, .int .i64 C.sg[s].fin] 40))
                            have ibx := Is.new wr 40 #[.int .i64 C.sg[s].sec, .int .i64 C.sg[s].fin]
                            have g0 : _ = some (Value.int .i64 C.sg[s].sec) := (ibx.cell 0).trans rfl
                            have g1 : _ = some (Value.int .i64 C.sg[s].fin) := (ibx.cell 1).trans rfl
                            obtain ⟨p0, p1, p2, p3, p4, p5, p6, p7, p8⟩ := nine_cells ((HI5.out.fr fr id).alloc (.cells #[.int .i64 C.sg[s].sec, .int .i64 C.sg[s].fin] 40))
                            have hd := drop_count (fun x : Sg => inlB C.l.length x.sec) hsl
                            have hle : ((C.sg.drop s).filter fun x => inlB C.l.length x.sec).length ≤ C.sg.length := Nat.le_trans (List.length_filter_le _ _) (by rw [List.length_drop]; omega)
                            have HD := Lib.hid hd
                            generalize ((C.sg.drop s).filter fun x => inlB C.l.length x.sec).length = m at *
                            have hm9 : (m : Int) ≤ 17592186044416 := by omega
                            have hm0 : (0 : Int) ≤ (m : Int) := by omega
                            clear fr hd hle ibx
                            generalize C.sg[s] = q at *
                            rw [hA]
                            by_cases hq : 0 ≤ q.sec
                            · have d1 : decide (0 ≤ q.sec) = true := decide_eq_true hq
                              by_cases hr : q.sec < (C.l.length : Int)
                              · have d2 : decide (q.sec < (C.l.length : Int)) = true := decide_eq_true hr
                                have hm := HD.out
                                rw [if_pos (by simp [inlB, hq, hr])] at hm
                                have HM := Lib.hid hm
                                clear hm
                                go_wp2_with fail
                                go_roundw
                                case rel => exact ⟨s + 1, by omega, by go_num, by have := HM.out; rw [this]; go_num, HFR.out⟩
                                case measure => simp [intOf]; omega
                              · have d2 : decide (q.sec < (C.l.length : Int)) = false := decide_eq_false hr
                                have hm := HD.out
                                rw [if_neg (by simp [inlB]; omega)] at hm
                                have HM := Lib.hid hm
                                clear hm
                                go_wp2_with fail
                                go_roundw
                                case rel => exact ⟨s + 1, by omega, by go_num, by have := HM.out; rw [this, Nat.zero_add], HFR.out⟩
                                case measure => simp [intOf]; omega
                            · have d1 : decide (0 ≤ q.sec) = false := decide_eq_false hq
                              have hm := HD.out
                              rw [if_neg (by simp [inlB, hq])] at hm
                              have HM := Lib.hid hm
                              clear hm
                              go_wp2_with fail
                              go_roundw
                              case rel => exact ⟨s + 1, by omega, by go_num, by have := HM.out; rw [this, Nat.zero_add], HFR.out⟩
                              case measure => simp [intOf]; omega
                          · have hse : s = C.sg.length := by omega
                            subst hse
                            rw [List.drop_length]
                            obtain ⟨p0, p1, p2, p3, p4, p5, p6, p7, p8⟩ := nine_cells (HI5.out.fr fr id)
                            have HF6 := Lib.hid (fr_nil HF5.out fr)
                            clear fr HF5 HI5 hsl
                            go_wp2_with fail
                            go_ret
                            exact ⟨rfl, HF6.out⟩
theorem shapes_below {C : Cf} {w : World} (hC : C.Ok w) (oc : Int) : Calls Try.prog 3 #[C.val, .int .i64 oc] w fun e w' => e = .returned (.bool true) ∧ Below w.heap.size w w' :=
  (shapes_walk hC oc).mono fun _ _ h => ⟨h.1, h.2.toBelow0⟩
end Go.Proofs.Ytfmhfngilimhjaa.Te

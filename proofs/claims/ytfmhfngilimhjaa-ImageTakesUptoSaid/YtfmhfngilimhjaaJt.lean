/- The document's image: said. -/
import Derived.Test.YtfmhfngilimhjaaJs
import Derived.Test.YtfmhfngilimhjaaTshp
namespace Go.Proofs.Ytfmhfngilimhjaa.Im
open Go.RowKit Li

/-- what a controller said, and its shape -/
def sF (ks : List Kr) (oc : Int) : Te.St := if 0 ≤ oc then (match ks[oc.toNat]? with | some k => k.s.st | none => ⟨[], [], [], []⟩) else ⟨[], [], [], []⟩
def hF (C : Te.Cf) (oc : Int) : Te.St := if 0 ≤ oc ∧ oc < 4 then Te.shL C oc else ⟨[], [], [], []⟩
section
variable {w : World} {base n : Nat} {p : Jp} {C : Te.Cf} {ks : List Kr}
set_option maxRecDepth 100000 in
set_option maxHeartbeats 4000000 in
theorem said_any (h : Jm w base n p C ks) (hC : C.Ok w) (oc : Int) :
    Calls Try.prog 51 #[.pointer (some ⟨p.b, 0, none⟩), .int .i64 oc] w fun e w' => ∃ x y : Te.Sta, e = .returned (.tuple #[x.val, y.val]) ∧ x.st = sF ks oc ∧ y.st = hF C oc ∧ x.Ok w' ∧ y.Ok w' ∧ (∀ S : Nat → Prop, (∀ q, S q → q < w.heap.size) → (∀ k ∈ ks, k.s.Off S) → x.Off S ∧ y.Off S) ∧ Fr (fun _ => False) w w' := by
  have ia : Is ((w.alloc (.cells #[.slice none 0 0, .slice none 0 0, .slice none 0 0, .slice none 0 0] 65)).alloc (.cells #[.slice none 0 0, .slice none 0 0, .slice none 0 0, .slice none 0 0] 33)) w.heap.size 65 #[.slice none 0 0, .slice none 0 0, .slice none 0 0, .slice none 0 0] := (Is.new w 65 #[.slice none 0 0, .slice none 0 0, .slice none 0 0, .slice none 0 0]).alloc _
  have ib : Is ((w.alloc (.cells #[.slice none 0 0, .slice none 0 0, .slice none 0 0, .slice none 0 0] 65)).alloc (.cells #[.slice none 0 0, .slice none 0 0, .slice none 0 0, .slice none 0 0] 33)) (w.heap.size + 1) 33 #[.slice none 0 0, .slice none 0 0, .slice none 0 0, .slice none 0 0] := by
    have := Is.new (w.alloc (.cells #[.slice none 0 0, .slice none 0 0, .slice none 0 0, .slice none 0 0] 65)) 33 #[.slice none 0 0, .slice none 0 0, .slice none 0 0, .slice none 0 0]
    simpa using this
  have fa := ((Fr.refl (fun _ => False) w).alloc (.cells #[.slice none 0 0, .slice none 0 0, .slice none 0 0, .slice none 0 0] 65)).alloc (.cells #[.slice none 0 0, .slice none 0 0, .slice none 0 0, .slice none 0 0] 33)
  have hJ := h.fr0 fa
  have KH := fun (W : World) (k : C.Ok W) => Te.refshape_any k oc
  unfold Te.Cf.val Te.Cf.cells at KH
  have HJ := Lib.hid hJ
  have HC := Lib.hid (hC.fr fa)
  have HIA := Lib.hid ia
  have HIB := Lib.hid ib
  have HF := Lib.hid fa
  have h4 := h.h4
  have hsok := h.sok
  have HSO := Lib.hid hsok
  obtain ⟨w0, hw0⟩ : ∃ w0, w0 = (w.alloc (.cells #[.slice none 0 0, .slice none 0 0, .slice none 0 0, .slice none 0 0] 65)).alloc (.cells #[.slice none 0 0, .slice none 0 0, .slice none 0 0, .slice none 0 0] 33) := ⟨_, rfl⟩
  rw [← hw0] at HJ HC HIA HIB HF
  have HW := Lib.hid hw0
  clear h hC ia ib fa hJ hsok hw0
  by_cases ho : 0 ≤ oc ∧ oc < 4
  · obtain ⟨j, rfl⟩ : ∃ j : Nat, oc = (j : Int) := ⟨oc.toNat, by omega⟩
    have hj : j < ks.length := by omega
    have es : sF ks (j : Int) = ks[j].s.st := by
      unfold sF
      rw [if_pos ho.1, Int.toNat_natCast, List.getElem?_eq_getElem hj]
    have eh : hF C (j : Int) = Te.shL C (j : Int) := if_pos ho
    rw [es, eh]
    generalize Te.shL C (j : Int) = T at *
    have d0 : decide ((j : Int) < 0) = false := decide_eq_false (by omega)
    have d1 : decide (4 ≤ (j : Int)) = false := decide_eq_false (by omega)
    have hj4 : (j : Int) < 4 := ho.2
    clear es eh
    go_enter Try.func51, Try.ntmps51
    go_wp2_with fail
    rw [← HW.out]
    refine region_late 13 [14, 15, 16, 17, 18, 19, 20, 21, 22, 23, 24, 25, 26] [(14, .val (.pointer (some ⟨p.b, 0, none⟩))), (15, .val (.pointer (some ⟨p.b, 0, none⟩))), (16, .val (.pointer (some ⟨p.b, 10, none⟩))), (17, .val (.slice (some ⟨p.gS, 0, none⟩) 4 p.cS)), (18, .val (.int .i64 (j : Int))), (19, .val (.pointer (some ⟨p.gS, j * 4, none⟩))), (20, .val (.agg #[.slice ks[j].s.occ.A ks[j].s.occ.l.length ks[j].s.occ.c, .slice ks[j].s.pos.A ks[j].s.pos.l.length ks[j].s.pos.c, .slice ks[j].s.shut.A ks[j].s.shut.l.length ks[j].s.shut.c, .slice ks[j].s.lamp.A ks[j].s.lamp.l.length ks[j].s.lamp.c])), (21, .val (.pointer (some ⟨p.b, 0, none⟩))), (22, .val (.pointer (some ⟨p.b, 0, none⟩))), (23, .val (.pointer (some ⟨p.b, 0, none⟩))), (24, .val (.agg #[.slice C.A1 C.l.length C.c1, .slice C.A2 C.n2 C.c2, .slice C.A3 C.sg.length C.c3, .slice C.A4 C.cr.length C.c4, .slice C.A5 C.n5 C.c5, .int .i64 C.t.age, .int .i64 C.t.brake, .int .i64 C.t.hold, .int .i64 C.t.budget])), (25, .val (.int .i64 (j : Int))), (26, Te.spR T w0.heap.size)] (by kernel_rfl) (by kernel_rfl) (by kernel_rfl) (by decide) (by kernel_rfl) (by kernel_rfl) (by kernel_rfl) ?_ ?_
    · intro i9 o9 ho him
      have hcase : i9 = 0 ∨ i9 = 1 ∨ i9 = 2 ∨ i9 = 3 ∨ i9 = 4 ∨ i9 = 5 ∨ i9 = 6 ∨ i9 = 7 ∨ i9 = 8 ∨ i9 = 9 ∨ i9 = 10 ∨ i9 = 11 ∨ i9 = 12 := by omega
      clear him
      rcases hcase with rfl | rfl | rfl | rfl | rfl | rfl | rfl | rfl | rfl | rfl | rfl | rfl | rfl <;> (injection ho with ho; subst ho; intro a' w' hf hl)
      · have e0 : a'.eval (.tmp 0) = .pointer (some ⟨p.b, 0, none⟩) := hl 0 (by decide)
        refine l_of rfl (v := .pointer (some ⟨p.b, 0, none⟩)) (w' := w') (by clear hl; revert e0; generalize a'.eval = ev; intro e0; go_simp) (putL' (Fr.refl _ _) rfl)
      · have e0 : a'.eval (.tmp 14) = .pointer (some ⟨p.b, 0, none⟩) := hl 14 (by decide)
        refine l_of rfl (v := .pointer (some ⟨p.b, 0, none⟩)) (w' := w') (by clear hl; revert e0; generalize a'.eval = ev; intro e0; go_simp) (putL' (Fr.refl _ _) rfl)
      · have e0 : a'.eval (.tmp 15) = .pointer (some ⟨p.b, 0, none⟩) := hl 15 (by decide)
        refine l_of rfl (v := .pointer (some ⟨p.b, 10, none⟩)) (w' := w') (by clear hl; revert e0; generalize a'.eval = ev; intro e0; go_simp) (putL' (Fr.refl _ _) rfl)
      · have e0 : a'.eval (.tmp 16) = .pointer (some ⟨p.b, 10, none⟩) := hl 16 (by decide)
        have cc := (twelve (Is.fr (S := fun _ => False) (Is.drew HJ.out.is) hf id)).2.2.2.2.2.2.2.2.2.2.1
        refine l_of rfl (v := .slice (some ⟨p.gS, 0, none⟩) 4 p.cS) (w' := w') (by clear hl; revert e0; generalize a'.eval = ev; intro e0; go_simp) (putL' (Fr.refl _ _) rfl)
      · have e0 : a'.eval (.tmp 1) = .int .i64 (j : Int) := hl 1 (by decide)
        refine l_of rfl (v := .int .i64 (j : Int)) (w' := w') (by clear hl; revert e0; generalize a'.eval = ev; intro e0; go_simp) (putL' (Fr.refl _ _) rfl)
      · have e0 : a'.eval (.tmp 17) = .slice (some ⟨p.gS, 0, none⟩) 4 p.cS := hl 17 (by decide)
        have e1 : a'.eval (.tmp 18) = .int .i64 (j : Int) := hl 18 (by decide)
        refine l_of rfl (v := .pointer (some ⟨p.gS, j * 4, none⟩)) (w' := w') (by clear hl; revert e0 e1; generalize a'.eval = ev; intro e0 e1; go_simp) (putL' (Fr.refl _ _) rfl)
      · have e0 : a'.eval (.tmp 19) = .pointer (some ⟨p.gS, j * 4, none⟩) := hl 19 (by decide)
        obtain ⟨s0, s1, s2, s3⟩ := (HJ.out.fr0 ((Fr.refl _ w0).drew.trans hf fun _ _ h => h)).scell hj
        refine l_of rfl (v := .agg #[.slice ks[j].s.occ.A ks[j].s.occ.l.length ks[j].s.occ.c, .slice ks[j].s.pos.A ks[j].s.pos.l.length ks[j].s.pos.c, .slice ks[j].s.shut.A ks[j].s.shut.l.length ks[j].s.shut.c, .slice ks[j].s.lamp.A ks[j].s.lamp.l.length ks[j].s.lamp.c]) (w' := w') (by clear hl; revert e0; generalize a'.eval = ev; intro e0; go_simp) (putL' (Fr.refl _ _) rfl)
      · have e0 : a'.eval (.tmp 0) = .pointer (some ⟨p.b, 0, none⟩) := hl 0 (by decide)
        refine l_of rfl (v := .pointer (some ⟨p.b, 0, none⟩)) (w' := w') (by clear hl; revert e0; generalize a'.eval = ev; intro e0; go_simp) (putL' (Fr.refl _ _) rfl)
      · have e0 : a'.eval (.tmp 21) = .pointer (some ⟨p.b, 0, none⟩) := hl 21 (by decide)
        refine l_of rfl (v := .pointer (some ⟨p.b, 0, none⟩)) (w' := w') (by clear hl; revert e0; generalize a'.eval = ev; intro e0; go_simp) (putL' (Fr.refl _ _) rfl)
      · have e0 : a'.eval (.tmp 22) = .pointer (some ⟨p.b, 0, none⟩) := hl 22 (by decide)
        refine l_of rfl (v := .pointer (some ⟨p.b, 0, none⟩)) (w' := w') (by clear hl; revert e0; generalize a'.eval = ev; intro e0; go_simp) (putL' (Fr.refl _ _) rfl)
      · have e0 : a'.eval (.tmp 23) = .pointer (some ⟨p.b, 0, none⟩) := hl 23 (by decide)
        have cc := twelve (Is.fr (S := fun _ => False) (Is.drew HJ.out.is) hf id)
        refine l_of rfl (v := .agg #[.slice C.A1 C.l.length C.c1, .slice C.A2 C.n2 C.c2, .slice C.A3 C.sg.length C.c3, .slice C.A4 C.cr.length C.c4, .slice C.A5 C.n5 C.c5, .int .i64 C.t.age, .int .i64 C.t.brake, .int .i64 C.t.hold, .int .i64 C.t.budget]) (w' := w') (by clear hl; revert e0; generalize a'.eval = ev; intro e0; go_simp) (putL' (Fr.refl _ _) rfl)
      · have e0 : a'.eval (.tmp 1) = .int .i64 (j : Int) := hl 1 (by decide)
        refine l_of rfl (v := .int .i64 (j : Int)) (w' := w') (by clear hl; revert e0; generalize a'.eval = ev; intro e0; go_simp) (putL' (Fr.refl _ _) rfl)
      · have e1 : a'.eval (.tmp 24) = .agg #[.slice C.A1 C.l.length C.c1, .slice C.A2 C.n2 C.c2, .slice C.A3 C.sg.length C.c3, .slice C.A4 C.cr.length C.c4, .slice C.A5 C.n5 C.c5, .int .i64 C.t.age, .int .i64 C.t.brake, .int .i64 C.t.hold, .int .i64 C.t.budget] := hl 24 (by decide)
        have e2 : a'.eval (.tmp 25) = .int .i64 (j : Int) := hl 25 (by decide)
        refine Te.l_call2 Te.enters_rshape e1 e2 ((KH w' (HC.out.fr ((Fr.refl _ w0).drew.trans hf fun _ _ h => h))).mono fun e w'' ⟨x, he, hst, ok, hnew, f⟩ => ⟨_, he, putL' f ⟨x, rfl, hst, ok, hnew.mono hf.size⟩⟩)
    · intro val w' hf hT
      obtain ⟨y, e26, yst, yok, ynew⟩ := (hT 26 (by decide) : (Te.spR T w0.heap.size).p _ _)
      have e20 : val 20 = .agg #[.slice ks[j].s.occ.A ks[j].s.occ.l.length ks[j].s.occ.c, .slice ks[j].s.pos.A ks[j].s.pos.l.length ks[j].s.pos.c, .slice ks[j].s.shut.A ks[j].s.shut.l.length ks[j].s.shut.c, .slice ks[j].s.lamp.A ks[j].s.lamp.l.length ks[j].s.lamp.c] := hT 20 (by decide)
      simp only [laidL, List.foldl_cons, List.foldl_nil, e20, e26]
      clear hT
      generalize val 14 = v14; generalize val 15 = v15; generalize val 16 = v16; generalize val 17 = v17; generalize val 18 = v18; generalize val 19 = v19; generalize val 21 = v21; generalize val 22 = v22; generalize val 23 = v23; generalize val 24 = v24; generalize val 25 = v25
      simp only [List.setIfInBounds_toArray, List.set_cons_succ, List.set_cons_zero]
      unfold Te.Sta.val
      have i1 := Is.fr (S := fun _ => False) (Is.drew HIA.out) hf id
      have i2 := Is.fr (S := fun _ => False) (Is.drew HIB.out) hf id
      have hne : w.heap.size ≠ w.heap.size + 1 := by omega
      obtain ⟨m0, m1, m2, m3⟩ := Te.four_cells i1
      have z0 := i1.frozen 0
      have z1 := i1.frozen 1
      have z2 := i1.frozen 2
      have z3 := i1.frozen 3
      have is1 := Te.put4_is i1 (.slice ks[j].s.occ.A ks[j].s.occ.l.length ks[j].s.occ.c) (.slice ks[j].s.pos.A ks[j].s.pos.l.length ks[j].s.pos.c) (.slice ks[j].s.shut.A ks[j].s.shut.l.length ks[j].s.shut.c) (.slice ks[j].s.lamp.A ks[j].s.lamp.l.length ks[j].s.lamp.c)
      have fs1 := Te.put4_fr w' w.heap.size (.slice ks[j].s.occ.A ks[j].s.occ.l.length ks[j].s.occ.c) (.slice ks[j].s.pos.A ks[j].s.pos.l.length ks[j].s.pos.c) (.slice ks[j].s.shut.A ks[j].s.shut.l.length ks[j].s.shut.c) (.slice ks[j].s.lamp.A ks[j].s.lamp.l.length ks[j].s.lamp.c)
      refine tail1s (n := 1) rfl rfl rfl (w' := Te.World.put4 w' w.heap.size (.slice ks[j].s.occ.A ks[j].s.occ.l.length ks[j].s.occ.c) (.slice ks[j].s.pos.A ks[j].s.pos.l.length ks[j].s.pos.c) (.slice ks[j].s.shut.A ks[j].s.shut.l.length ks[j].s.shut.c) (.slice ks[j].s.lamp.A ks[j].s.lamp.l.length ks[j].s.lamp.c)) (by unfold Te.World.put4; go_simp) ?_
      clear m0 m1 m2 m3 z0 z1 z2 z3
      generalize Te.World.put4 w' w.heap.size _ _ _ _ = W1 at *
      have i2 := i2.fr fs1 (fun e => hne e.symm)
      obtain ⟨m0, m1, m2, m3⟩ := Te.four_cells i2
      have z0 := i2.frozen 0
      have z1 := i2.frozen 1
      have z2 := i2.frozen 2
      have z3 := i2.frozen 3
      have is2 := Te.put4_is i2 (.slice y.occ.A y.occ.l.length y.occ.c) (.slice y.pos.A y.pos.l.length y.pos.c) (.slice y.shut.A y.shut.l.length y.shut.c) (.slice y.lamp.A y.lamp.l.length y.lamp.c)
      have fs2 := Te.put4_fr W1 (w.heap.size + 1) (.slice y.occ.A y.occ.l.length y.occ.c) (.slice y.pos.A y.pos.l.length y.pos.c) (.slice y.shut.A y.shut.l.length y.shut.c) (.slice y.lamp.A y.lamp.l.length y.lamp.c)
      refine tail1 rfl rfl rfl (w' := Te.World.put4 W1 (w.heap.size + 1) (.slice y.occ.A y.occ.l.length y.occ.c) (.slice y.pos.A y.pos.l.length y.pos.c) (.slice y.shut.A y.shut.l.length y.shut.c) (.slice y.lamp.A y.lamp.l.length y.lamp.c)) (by unfold Te.World.put4; go_simp) ?_
      clear m0 m1 m2 m3 z0 z1 z2 z3
      generalize Te.World.put4 W1 (w.heap.size + 1) _ _ _ _ = W2 at *
      have I1 := is1.fr fs2 hne
      have F : Fr (fun q => q = w.heap.size ∨ q = w.heap.size + 1) w' W2 := (fs1.mono fun _ _ h => .inl h).trans (fs2.mono fun _ _ h => .inr h) fun _ _ h => h
      have hw0s : w0.heap.size = w.heap.size + 2 := by rw [HW.out]; simp
      have xok := ((HSO.out _ (List.getElem_mem hj)).fr HF.out).fr ((Fr.refl (fun _ => False) w0).drew.trans hf fun _ _ h => h)
      have xok2 := xok.off F ((HSO.out _ (List.getElem_mem hj)).off_new fun q hq => by rcases hq with h | h <;> omega)
      have yok2 := yok.off F (ynew.off fun q hq => by rcases hq with h | h <;> omega)
      obtain ⟨m0, m1, m2, m3⟩ := Te.four_cells I1
      obtain ⟨n0, n1, n2, n3⟩ := Te.four_cells is2
      have FF : Fr (fun _ => False) w W2 := (HF.out.drew.trans hf fun _ _ h => h).trans F fun q hq h => by rcases h with h | h <;> omega
      clear HSO HF HW HIA HIB HJ HC KH
      go_wp2_with fail
      refine bodyPost_ret (v := .tuple #[.agg #[.slice ks[j].s.occ.A ks[j].s.occ.l.length ks[j].s.occ.c, .slice ks[j].s.pos.A ks[j].s.pos.l.length ks[j].s.pos.c, .slice ks[j].s.shut.A ks[j].s.shut.l.length ks[j].s.shut.c, .slice ks[j].s.lamp.A ks[j].s.lamp.l.length ks[j].s.lamp.c], .agg #[.slice y.occ.A y.occ.l.length y.occ.c, .slice y.pos.A y.pos.l.length y.pos.c, .slice y.shut.A y.shut.l.length y.shut.c, .slice y.lamp.A y.lamp.l.length y.lamp.c]]) (by simp [results, Try.results51, go_sem, m0, m1, m2, m3, n0, n1, n2, n3]) rfl ⟨ks[j].s, y, rfl, rfl, yst, xok2, yok2, fun S hS hk => ⟨hk _ (List.getElem_mem hj), ynew.off fun q hq => by have := hS q hq; omega⟩, FF⟩
  · have es : sF ks oc = ⟨[], [], [], []⟩ := by
      unfold sF
      split
      · rw [List.getElem?_eq_none (by omega)]
      · rfl
    have eh : hF C oc = ⟨[], [], [], []⟩ := if_neg ho
    rw [es, eh]
    clear es eh KH HJ HC HSO
    by_cases h0 : 0 ≤ oc
    · have d0 : decide (oc < 0) = false := decide_eq_false (by omega)
      have d1 : decide (4 ≤ oc) = true := decide_eq_true (by omega)
      clear h0 ho
      go_enter Try.func51, Try.ntmps51
      go_wp2_with fail
      rw [← HW.out]
      obtain ⟨m0, m1, m2, m3⟩ := Te.four_cells HIA.out
      obtain ⟨n0, n1, n2, n3⟩ := Te.four_cells HIB.out
      exact bodyPost_ret (v := .tuple #[.agg #[.slice none 0 0, .slice none 0 0, .slice none 0 0, .slice none 0 0], .agg #[.slice none 0 0, .slice none 0 0, .slice none 0 0, .slice none 0 0]]) (by simp [results, Try.results51, go_sem, m0, m1, m2, m3, n0, n1, n2, n3]) rfl ⟨Te.nilSta, Te.nilSta, rfl, rfl, rfl, Te.nilSta_ok _, Te.nilSta_ok _, fun S _ _ => ⟨Te.nilSta_off S, Te.nilSta_off S⟩, HF.out⟩
    · have d0 : decide (oc < 0) = true := decide_eq_true (by omega)
      clear h0 ho
      go_enter Try.func51, Try.ntmps51
      go_wp2_with fail
      rw [← HW.out]
      obtain ⟨m0, m1, m2, m3⟩ := Te.four_cells HIA.out
      obtain ⟨n0, n1, n2, n3⟩ := Te.four_cells HIB.out
      exact bodyPost_ret (v := .tuple #[.agg #[.slice none 0 0, .slice none 0 0, .slice none 0 0, .slice none 0 0], .agg #[.slice none 0 0, .slice none 0 0, .slice none 0 0, .slice none 0 0]]) (by simp [results, Try.results51, go_sem, m0, m1, m2, m3, n0, n1, n2, n3]) rfl ⟨Te.nilSta, Te.nilSta, rfl, rfl, rfl, Te.nilSta_ok _, Te.nilSta_ok _, fun S _ _ => ⟨Te.nilSta_off S, Te.nilSta_off S⟩, HF.out⟩
end
end Go.Proofs.Ytfmhfngilimhjaa.Im

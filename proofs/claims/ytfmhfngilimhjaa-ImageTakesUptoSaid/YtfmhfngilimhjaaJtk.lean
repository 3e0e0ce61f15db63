/- The document's image: Take. -/
import Derived.Test.YtfmhfngilimhjaaJu
namespace Go.Proofs.Ytfmhfngilimhjaa.Im
open Go.RowKit Li

theorem rst_three (h : Te.Hs) (t : List UInt8) : (Te.rstL h t).2 = 0 ∨ (Te.rstL h t).2 = 3 := by
  unfold Te.rstL
  split
  · exact .inl rfl
  · exact .inr rfl
theorem sta_sh {x : Te.Sta} {w : World} (h : x.Ok w) : x.sh.Ok := h.sh
section
variable {w : World} {base n : Nat} {p : Jp} {C : Te.Cf} {ks : List Kr} {j : Nat}
theorem jtake_out {oc : Int} (ho : ¬ (0 ≤ oc ∧ oc < 4)) (now : Int) (s : ByteArray) :
    Calls Try.prog 16 #[.pointer (some ⟨p.b, 0, none⟩), .int .i64 now, .int .i64 oc, .string s] w fun e w' => e = .returned (.int .i64 20) ∧ w' = w := by
  by_cases h0 : 0 ≤ oc
  · have d0 : decide (oc < 0) = false := decide_eq_false (by omega)
    have d1 : decide (4 ≤ oc) = true := decide_eq_true (by omega)
    clear h0 ho
    go_enter Try.func16, Try.ntmps16
    go_wp2_with fail
    go_ret
    exact ⟨rfl, rfl⟩
  · have d0 : decide (oc < 0) = true := decide_eq_true (by omega)
    clear h0 ho
    go_enter Try.func16, Try.ntmps16
    go_wp2_with fail
    go_ret
    exact ⟨rfl, rfl⟩
set_option maxRecDepth 100000 in
set_option maxHeartbeats 8000000 in
theorem jtake_in {w0 : World} (h : Jm w base n p C ks) (hC : C.Ok w0) (hb0 : w0.heap.size ≤ base) (F0 : Fr (fun _ => False) w0 w) (hj : j < ks.length) (hn : n ≤ 5864062014805) (now : Int) (s : ByteArray) (hnow : now ≤ 9223372036854775807) (hs : s.size ≤ 140737488355328) :
    Calls Try.prog 16 #[.pointer (some ⟨p.b, 0, none⟩), .int .i64 now, .int .i64 (j : Int), .string s] w fun e w' => ∃ k : Kr, e = .returned (.int .i64 (ks[j].m.hear (Te.shL C (j : Int)).hs now (readL (bytesOf s))).2) ∧ k.m = (ks[j].m.hear (Te.shL C (j : Int)).hs now (readL (bytesOf s))).1 ∧ k.rb = ks[j].rb ∧ Jm w' base (n + 1) p C (ks.set j k) ∧ Fr (Jf p ks) w w' ∧ ∀ q, Jf p (ks.set j k) q → Jf p ks q ∨ w.heap.size ≤ q := by
  have hmj := List.getElem_mem hj
  have KT := rtakex (h.mx _ hmj) (h.rb _ hmj) hn now s hnow hs
  have KH := fun (W : World) (k : C.Ok W) => Te.refshape_any k (j : Int)
  have KR := fun (W : World) (y : Te.Sta) (hy : y.Ok W) (t : List UInt8) => (Te.refrst_new (sta_sh hy) ⟨t.toArray⟩ W).mono fun e w' h => Te.exs h
  unfold Te.Cf.val Te.Cf.cells at KH
  have h4 := h.h4
  have HT3 := Lib.hid (rst_three (Te.shL C (j : Int)).hs)
  have hml : ks[j].m = ⟨ks[j].r, ks[j].s.st, ks[j].z⟩ := rfl
  rw [hml]
  unfold Km.hear
  simp only
  generalize ks[j].r.take now (readL (bytesOf s)) = TK at *
  obtain ⟨px, e0, r1⟩ := TK
  simp only at KT ⊢
  obtain ⟨_, _, _, _, _, _, _, _, _, p9, p10, p11⟩ := twelve h.is
  have c9 := h.rcell hj
  have HJ := Lib.hid h
  have HC := Lib.hid hC
  have hj4 : (j : Int) < 4 := by omega
  have d0 : decide ((j : Int) < 0) = false := decide_eq_false (by omega)
  have d1 : decide (4 ≤ (j : Int)) = false := decide_eq_false (by omega)
  have HF0 := Lib.hid F0
  have hlo : ∀ q, Jf p ks q → base ≤ q := fun q hq => (Jf.lo h hq).1
  have HLO := Lib.hid hlo
  clear h hC F0 hlo
  obtain ⟨rb, hrb⟩ : ∃ rb, rb = ks[j].rb := ⟨_, rfl⟩
  rw [← hrb] at c9 KT
  have HRB := Lib.hid hrb
  clear hrb
  by_cases he : e0 = 0
  · subst he
    simp only [if_pos]
    obtain ⟨T, hT⟩ : ∃ T, T = Te.shL C (j : Int) := ⟨_, rfl⟩
    rw [← hT] at HT3 ⊢ KH
    clear hT
    obtain ⟨RS, hRS⟩ : ∃ RS, Te.rstL T.hs px = RS := ⟨_, rfl⟩
    have HTX := HT3.out px
    rw [hRS] at HTX ⊢
    obtain ⟨sx, e2⟩ := RS
    simp only at HTX ⊢
    have HRS := Lib.hid hRS
    have HE2 := Lib.hid HTX
    clear hRS HTX HT3
    go_enter Try.func16, Try.ntmps16
    go_wp2_with fail
    refine KT.mono ?_
    rintro e w1 ⟨rfl, v', hmx, f1, hv'⟩
    have H1 : Hid (Jm w1 base (n + 1) p C (ks.set j ⟨ks[j].rb, v', r1, ks[j].s, ks[j].z⟩)) := Lib.hid (HJ.out.turn hj (HRB.out ▸ f1) (HRB.out ▸ hmx) hv')
    have HF1 : Hid (Fr (Jf p ks) w w1) := Lib.hid (f1.mono fun q _ hq => .inr (.inr ⟨_, hmj, by rw [← HRB.out]; exact hq⟩))
    have HV := Lib.hid hv'
    have FW1 := Lib.hid (HF0.out.trans HF1.out fun q hq h => by have := HLO.out q h; omega)
    have KH1 := KH w1 (HC.out.fr FW1.out)
    obtain ⟨t0, t1, t2, t3, t4, t5, t6, t7, t8, t9, t10, t11⟩ := twelve H1.out.is
    clear f1 hmx hv' KT KH p9 p10 p11 c9
    go_wp2_with fail
    refine KH1.mono ?_
    rintro e w2 ⟨y, rfl, hy, oky, newy, f2⟩
    have KR2 := KR w2 y oky px
    rw [Te.Sta.sh_hs, hy, show bytesOf ⟨px.toArray⟩ = px from rfl, HRS.out] at KR2
    simp only [Te.Sh.val, Te.Sta.sh] at KR2
    unfold Te.Sta.val
    have H2 := Lib.hid (H1.out.fr0 f2)
    have HF2 := Lib.hid (HF1.out.trans f2 fun _ _ h => h.elim)
    have HF2w := Lib.hid f2
    clear KH1 KR t0 t1 t2 t3 t4 t5 t6 t7 t8 t9 t10 t11 hy oky newy f2
    go_wp2_with fail
    refine KR2.mono ?_
    rintro e w3 ⟨x0, x1, x2, x3, rfl, hst, okx, newx, f3⟩
    simp only [Te.Sta.val]
    have hw12 : w.heap.size ≤ w2.heap.size := HF2.out.size
    have fal := (Fr.refl (fun _ => False) w3).alloc (.cells #[.slice x0.A x0.l.length x0.c, .slice x1.A x1.l.length x1.c, .slice x2.A x2.l.length x2.c, .slice x3.A x3.l.length x3.c] 65)
    have HTB := Lib.hid (Is.new w3 65 #[.slice x0.A x0.l.length x0.c, .slice x1.A x1.l.length x1.c, .slice x2.A x2.l.length x2.c, .slice x3.A x3.l.length x3.c])
    have H4 := Lib.hid ((H2.out.fr0 f3).fr0 fal)
    have HF4 := Lib.hid ((HF2.out.trans f3 fun _ _ h => h.elim).trans fal fun _ _ h => h.elim)
    have HOK := Lib.hid (okx.fr fal)
    have HNX := Lib.hid newx
    have HST := Lib.hid hst
    have hw34 : w2.heap.size ≤ w3.heap.size := f3.size
    have HW2 : Hid ((∀ q, Jf p (ks.set j ⟨ks[j].rb, v', r1, ks[j].s, ks[j].z⟩) q → q < w2.heap.size) ∧ base ≤ w2.heap.size) := Lib.hid ⟨fun q hq => Nat.lt_of_lt_of_le (Jf.lo H1.out hq).2 HF2w.out.size, by have := HJ.out.lo.1; have := HJ.out.is.lt; omega⟩
    clear KR2 H2 HF2 f3 fal okx newx hst H1 HF1 FW1 HF2w
    by_cases he2 : e2 = 0
    · subst he2
      go_wp2_with fail
      obtain ⟨tb, htb⟩ : ∃ tb, tb = w3.heap.size := ⟨_, rfl⟩
      rw [← htb] at HTB ⊢
      have htbw : w.heap.size ≤ tb := by omega
      clear htb hw34
      generalize w3.alloc _ = w4 at *
      have HJ4 := H4
      refine region_late 7 [47, 48, 49, 50, 51, 52, 53] [(47, .val (.pointer (some ⟨p.b, 0, none⟩))), (48, .val (.pointer (some ⟨p.b, 0, none⟩))), (49, .val (.pointer (some ⟨p.b, 10, none⟩))), (50, .val (.slice (some ⟨p.gS, 0, none⟩) 4 p.cS)), (51, .val (.int .i64 (j : Int))), (52, .val (.agg #[.slice x0.A x0.l.length x0.c, .slice x1.A x1.l.length x1.c, .slice x2.A x2.l.length x2.c, .slice x3.A x3.l.length x3.c])), (53, .val (.pointer (some ⟨p.gS, j * 4, none⟩)))] (by kernel_rfl) (by kernel_rfl) (by kernel_rfl) (by decide) (by kernel_rfl) (by kernel_rfl) (by kernel_rfl) ?_ ?_
      · intro i9 o9 ho him
        have hcase : i9 = 0 ∨ i9 = 1 ∨ i9 = 2 ∨ i9 = 3 ∨ i9 = 4 ∨ i9 = 5 ∨ i9 = 6 := by omega
        clear him
        rcases hcase with rfl | rfl | rfl | rfl | rfl | rfl | rfl <;> (injection ho with ho; subst ho; intro a' w' hf hl)
        · have e0 : a'.eval (.tmp 0) = .pointer (some ⟨p.b, 0, none⟩) := hl 0 (by decide)
          refine l_of rfl (v := .pointer (some ⟨p.b, 0, none⟩)) (w' := w') (by clear hl; revert e0; generalize a'.eval = ev; intro e0; go_simp) (putL' (Fr.refl _ _) rfl)
        · have e0 : a'.eval (.tmp 47) = .pointer (some ⟨p.b, 0, none⟩) := hl 47 (by decide)
          refine l_of rfl (v := .pointer (some ⟨p.b, 0, none⟩)) (w' := w') (by clear hl; revert e0; generalize a'.eval = ev; intro e0; go_simp) (putL' (Fr.refl _ _) rfl)
        · have e0 : a'.eval (.tmp 48) = .pointer (some ⟨p.b, 0, none⟩) := hl 48 (by decide)
          refine l_of rfl (v := .pointer (some ⟨p.b, 10, none⟩)) (w' := w') (by clear hl; revert e0; generalize a'.eval = ev; intro e0; go_simp) (putL' (Fr.refl _ _) rfl)
        · have e0 : a'.eval (.tmp 49) = .pointer (some ⟨p.b, 10, none⟩) := hl 49 (by decide)
          have cc := (twelve (Is.fr (S := fun _ => False) (Is.drew HJ4.out.is) hf id)).2.2.2.2.2.2.2.2.2.2.1
          refine l_of rfl (v := .slice (some ⟨p.gS, 0, none⟩) 4 p.cS) (w' := w') (by clear hl; revert e0; generalize a'.eval = ev; intro e0; go_simp) (putL' (Fr.refl _ _) rfl)
        · have e0 : a'.eval (.tmp 2) = .int .i64 (j : Int) := hl 2 (by decide)
          refine l_of rfl (v := .int .i64 (j : Int)) (w' := w') (by clear hl; revert e0; generalize a'.eval = ev; intro e0; go_simp) (putL' (Fr.refl _ _) rfl)
        · have e0 : a'.eval (.tmp 11) = .pointer (some ⟨tb, 0, none⟩) := hl 11 (by decide)
          have cc := Te.four_cells (Is.fr (S := fun _ => False) (Is.drew HTB.out) hf id)
          refine l_of rfl (v := .agg #[.slice x0.A x0.l.length x0.c, .slice x1.A x1.l.length x1.c, .slice x2.A x2.l.length x2.c, .slice x3.A x3.l.length x3.c]) (w' := w') (by clear hl; revert e0; generalize a'.eval = ev; intro e0; go_simp) (putL' (Fr.refl _ _) rfl)
        · have e0 : a'.eval (.tmp 50) = .slice (some ⟨p.gS, 0, none⟩) 4 p.cS := hl 50 (by decide)
          have e1 : a'.eval (.tmp 51) = .int .i64 (j : Int) := hl 51 (by decide)
          refine l_of rfl (v := .pointer (some ⟨p.gS, j * 4, none⟩)) (w' := w') (by clear hl; revert e0 e1; generalize a'.eval = ev; intro e0 e1; go_simp) (putL' (Fr.refl _ _) rfl)
      · intro val w' hf hT
        have e52 : val 52 = .agg #[.slice x0.A x0.l.length x0.c, .slice x1.A x1.l.length x1.c, .slice x2.A x2.l.length x2.c, .slice x3.A x3.l.length x3.c] := hT 52 (by decide)
        have e53 : val 53 = .pointer (some ⟨p.gS, j * 4, none⟩) := hT 53 (by decide)
        simp only [laidL, List.foldl_cons, List.foldl_nil, e52, e53]
        clear hT
        generalize val 47 = q47; generalize val 48 = q48; generalize val 49 = q49; generalize val 50 = q50; generalize val 51 = q51
        simp only [List.setIfInBounds_toArray, List.set_cons_succ, List.set_cons_zero]
        have J4 := HJ4.out.fr0 ((Fr.refl (fun _ => False) w4).drew.trans hf fun _ _ h => h)
        have F4' : Fr (fun _ => False) w4 w' := (Fr.refl (fun _ => False) w4).drew.trans hf fun _ _ h => h
        have hj1 : j < (ks.set j ⟨ks[j].rb, v', r1, ks[j].s, ks[j].z⟩).length := by rw [List.length_set]; exact hj
        obtain ⟨s0, s1, s2, s3⟩ := J4.scell hj1
        obtain ⟨cs9, i9, _, _⟩ := J4.ss
        have z0 := i9.frozen (j * 4)
        have z1 := i9.frozen (j * 4 + 1)
        have z2 := i9.frozen (j * 4 + 1 + 1)
        have z3 := i9.frozen (j * 4 + 1 + 1 + 1)
        have S9 := J4.said1 hj1 (x := ⟨x0, x1, x2, x3⟩) (HOK.out.fr F4') (HNX.out.off HW2.out.1) (HNX.out.off fun q hq => Nat.lt_of_lt_of_le hq HW2.out.2)
        simp only at S9
        refine tail1 rfl rfl rfl (w' := (((w'.setCell ⟨p.gS, j * 4, none⟩ (.slice x0.A x0.l.length x0.c)).setCell ⟨p.gS, j * 4 + 1, none⟩ (.slice x1.A x1.l.length x1.c)).setCell ⟨p.gS, j * 4 + 1 + 1, none⟩ (.slice x2.A x2.l.length x2.c)).setCell ⟨p.gS, j * 4 + 1 + 1 + 1, none⟩ (.slice x3.A x3.l.length x3.c)) (by go_simp) ?_
        have J5 : Hid (Jm ((((w'.setCell ⟨p.gS, j * 4, none⟩ (.slice x0.A x0.l.length x0.c)).setCell ⟨p.gS, j * 4 + 1, none⟩ (.slice x1.A x1.l.length x1.c)).setCell ⟨p.gS, j * 4 + 1 + 1, none⟩ (.slice x2.A x2.l.length x2.c)).setCell ⟨p.gS, j * 4 + 1 + 1 + 1, none⟩ (.slice x3.A x3.l.length x3.c)) base (n + 1) p C (ks.set j ⟨ks[j].rb, v', r1, ⟨x0, x1, x2, x3⟩, ks[j].z⟩)) := Lib.hid (by
          have k := S9.1
          rw [List.set_set] at k
          simpa only [List.getElem_set_self] using k)
        have HF5 := Lib.hid ((HF4.out.trans F4' fun _ _ h => h.elim).trans S9.2 fun q _ hq => .inl hq)
        clear S9 s0 s1 s2 s3 z0 z1 z2 z3 i9 J4 F4' HOK HNX HTB HJ4 hf
        generalize World.setCell _ ⟨p.gS, j * 4 + 1 + 1 + 1, none⟩ _ = w5 at *
        have HJ5 := J5
        have hj2 : j < (ks.set j ⟨ks[j].rb, v', r1, ⟨x0, x1, x2, x3⟩, ks[j].z⟩).length := by rw [List.length_set]; exact hj
        have hg2 : (ks.set j ⟨ks[j].rb, v', r1, ⟨x0, x1, x2, x3⟩, ks[j].z⟩)[j] = ⟨ks[j].rb, v', r1, ⟨x0, x1, x2, x3⟩, ks[j].z⟩ := List.getElem_set_self _
        have hm2 := List.getElem_mem hj2
        obtain ⟨la, hla⟩ : ∃ la, la = r1.last := ⟨_, rfl⟩
        have HLA := Lib.hid hla
        have HRC : Hid (∀ W, Fr (fun _ => False) w5.drew W → W.cell? ⟨p.gR, j, none⟩ = some (.pointer (some ⟨rb, 0, none⟩))) := Lib.hid fun W f => by
          have k := (HJ5.out.fr0 ((Fr.refl (fun _ => False) w5).drew.trans f fun _ _ h => h)).rcell hj2
          rw [hg2] at k
          rw [HRB.out]
          exact k
        have HLC : Hid (∀ W, Fr (fun _ => False) w5.drew W → W.cell? ⟨rb, 2, none⟩ = some (.int .i64 la)) := Lib.hid fun W f => by
          have k := (HJ5.out.fr0 ((Fr.refl (fun _ => False) w5).drew.trans f fun _ _ h => h)).mx _ hm2
          rw [hg2] at k
          obtain ⟨_, _, _, k3, _⟩ := k
          rw [HRB.out, hla]
          exact (k3.cell 2).trans rfl
        clear hla
        go_wp2_with fail
        refine region_late 16 [54, 55, 56, 57, 58, 59, 60, 61, 62, 63, 64, 65, 66, 67, 68, 69] [(54, .val (.pointer (some ⟨p.b, 0, none⟩))), (55, .val (.pointer (some ⟨p.b, 0, none⟩))), (56, .val (.pointer (some ⟨p.b, 11, none⟩))), (57, .val (.slice (some ⟨p.gZ, 0, none⟩) 4 p.cZ)), (58, .val (.int .i64 (j : Int))), (59, .val (.pointer (some ⟨p.b, 0, none⟩))), (60, .val (.pointer (some ⟨p.b, 0, none⟩))), (61, .val (.pointer (some ⟨p.b, 9, none⟩))), (62, .val (.slice (some ⟨p.gR, 0, none⟩) 4 p.cR)), (63, .val (.int .i64 (j : Int))), (64, .val (.pointer (some ⟨p.gR, j, none⟩))), (65, .val (.pointer (some ⟨rb, 0, none⟩))), (66, .val (.pointer (some ⟨rb, 0, none⟩))), (67, .val (.pointer (some ⟨rb, 2, none⟩))), (68, .val (.int .i64 la)), (69, .val (.pointer (some ⟨p.gZ, j, none⟩)))] (by kernel_rfl) (by kernel_rfl) (by kernel_rfl) (by decide) (by kernel_rfl) (by kernel_rfl) (by kernel_rfl) ?_ ?_
        · intro i9 o9 ho him
          have hcase : i9 = 0 ∨ i9 = 1 ∨ i9 = 2 ∨ i9 = 3 ∨ i9 = 4 ∨ i9 = 5 ∨ i9 = 6 ∨ i9 = 7 ∨ i9 = 8 ∨ i9 = 9 ∨ i9 = 10 ∨ i9 = 11 ∨ i9 = 12 ∨ i9 = 13 ∨ i9 = 14 ∨ i9 = 15 := by omega
          clear him
          rcases hcase with rfl | rfl | rfl | rfl | rfl | rfl | rfl | rfl | rfl | rfl | rfl | rfl | rfl | rfl | rfl | rfl <;> (injection ho with ho; subst ho; intro a' w' hf hl)
          · have e0 : a'.eval (.tmp 0) = .pointer (some ⟨p.b, 0, none⟩) := hl 0 (by decide)
            refine l_of rfl (v := .pointer (some ⟨p.b, 0, none⟩)) (w' := w') (by clear hl; revert e0; generalize a'.eval = ev; intro e0; go_simp) (putL' (Fr.refl _ _) rfl)
          · have e0 : a'.eval (.tmp 54) = .pointer (some ⟨p.b, 0, none⟩) := hl 54 (by decide)
            refine l_of rfl (v := .pointer (some ⟨p.b, 0, none⟩)) (w' := w') (by clear hl; revert e0; generalize a'.eval = ev; intro e0; go_simp) (putL' (Fr.refl _ _) rfl)
          · have e0 : a'.eval (.tmp 55) = .pointer (some ⟨p.b, 0, none⟩) := hl 55 (by decide)
            refine l_of rfl (v := .pointer (some ⟨p.b, 11, none⟩)) (w' := w') (by clear hl; revert e0; generalize a'.eval = ev; intro e0; go_simp) (putL' (Fr.refl _ _) rfl)
          · have e0 : a'.eval (.tmp 56) = .pointer (some ⟨p.b, 11, none⟩) := hl 56 (by decide)
            have cc := (twelve (Is.fr (S := fun _ => False) (Is.drew HJ5.out.is) hf id)).2.2.2.2.2.2.2.2.2.2.2
            refine l_of rfl (v := .slice (some ⟨p.gZ, 0, none⟩) 4 p.cZ) (w' := w') (by clear hl; revert e0; generalize a'.eval = ev; intro e0; go_simp) (putL' (Fr.refl _ _) rfl)
          · have e0 : a'.eval (.tmp 2) = .int .i64 (j : Int) := hl 2 (by decide)
            refine l_of rfl (v := .int .i64 (j : Int)) (w' := w') (by clear hl; revert e0; generalize a'.eval = ev; intro e0; go_simp) (putL' (Fr.refl _ _) rfl)
          · have e0 : a'.eval (.tmp 0) = .pointer (some ⟨p.b, 0, none⟩) := hl 0 (by decide)
            refine l_of rfl (v := .pointer (some ⟨p.b, 0, none⟩)) (w' := w') (by clear hl; revert e0; generalize a'.eval = ev; intro e0; go_simp) (putL' (Fr.refl _ _) rfl)
          · have e0 : a'.eval (.tmp 59) = .pointer (some ⟨p.b, 0, none⟩) := hl 59 (by decide)
            refine l_of rfl (v := .pointer (some ⟨p.b, 0, none⟩)) (w' := w') (by clear hl; revert e0; generalize a'.eval = ev; intro e0; go_simp) (putL' (Fr.refl _ _) rfl)
          · have e0 : a'.eval (.tmp 60) = .pointer (some ⟨p.b, 0, none⟩) := hl 60 (by decide)
            refine l_of rfl (v := .pointer (some ⟨p.b, 9, none⟩)) (w' := w') (by clear hl; revert e0; generalize a'.eval = ev; intro e0; go_simp) (putL' (Fr.refl _ _) rfl)
          · have e0 : a'.eval (.tmp 61) = .pointer (some ⟨p.b, 9, none⟩) := hl 61 (by decide)
            have cc := (twelve (Is.fr (S := fun _ => False) (Is.drew HJ5.out.is) hf id)).2.2.2.2.2.2.2.2.2.1
            refine l_of rfl (v := .slice (some ⟨p.gR, 0, none⟩) 4 p.cR) (w' := w') (by clear hl; revert e0; generalize a'.eval = ev; intro e0; go_simp) (putL' (Fr.refl _ _) rfl)
          · have e0 : a'.eval (.tmp 2) = .int .i64 (j : Int) := hl 2 (by decide)
            refine l_of rfl (v := .int .i64 (j : Int)) (w' := w') (by clear hl; revert e0; generalize a'.eval = ev; intro e0; go_simp) (putL' (Fr.refl _ _) rfl)
          · have e0 : a'.eval (.tmp 62) = .slice (some ⟨p.gR, 0, none⟩) 4 p.cR := hl 62 (by decide)
            have e1 : a'.eval (.tmp 63) = .int .i64 (j : Int) := hl 63 (by decide)
            refine l_of rfl (v := .pointer (some ⟨p.gR, j, none⟩)) (w' := w') (by clear hl; revert e0 e1; generalize a'.eval = ev; intro e0 e1; go_simp) (putL' (Fr.refl _ _) rfl)
          · have e0 : a'.eval (.tmp 64) = .pointer (some ⟨p.gR, j, none⟩) := hl 64 (by decide)
            have cc := HRC.out w' hf
            refine l_of rfl (v := .pointer (some ⟨rb, 0, none⟩)) (w' := w') (by clear hl; revert e0; generalize a'.eval = ev; intro e0; go_simp) (putL' (Fr.refl _ _) rfl)
          · have e0 : a'.eval (.tmp 65) = .pointer (some ⟨rb, 0, none⟩) := hl 65 (by decide)
            refine l_of rfl (v := .pointer (some ⟨rb, 0, none⟩)) (w' := w') (by clear hl; revert e0; generalize a'.eval = ev; intro e0; go_simp) (putL' (Fr.refl _ _) rfl)
          · have e0 : a'.eval (.tmp 66) = .pointer (some ⟨rb, 0, none⟩) := hl 66 (by decide)
            refine l_of rfl (v := .pointer (some ⟨rb, 2, none⟩)) (w' := w') (by clear hl; revert e0; generalize a'.eval = ev; intro e0; go_simp) (putL' (Fr.refl _ _) rfl)
          · have e0 : a'.eval (.tmp 67) = .pointer (some ⟨rb, 2, none⟩) := hl 67 (by decide)
            have cc := HLC.out w' hf
            refine l_of rfl (v := .int .i64 la) (w' := w') (by clear hl; revert e0; generalize a'.eval = ev; intro e0; go_simp) (putL' (Fr.refl _ _) rfl)
          · have e0 : a'.eval (.tmp 57) = .slice (some ⟨p.gZ, 0, none⟩) 4 p.cZ := hl 57 (by decide)
            have e1 : a'.eval (.tmp 58) = .int .i64 (j : Int) := hl 58 (by decide)
            refine l_of rfl (v := .pointer (some ⟨p.gZ, j, none⟩)) (w' := w') (by clear hl; revert e0 e1; generalize a'.eval = ev; intro e0 e1; go_simp) (putL' (Fr.refl _ _) rfl)
        · intro val w' hf hT
          have e68 : val 68 = .int .i64 la := hT 68 (by decide)
          have e69 : val 69 = .pointer (some ⟨p.gZ, j, none⟩) := hT 69 (by decide)
          simp only [laidL, List.foldl_cons, List.foldl_nil, e68, e69]
          clear hT
          generalize val 54 = q54; generalize val 55 = q55; generalize val 56 = q56; generalize val 57 = q57; generalize val 58 = q58; generalize val 59 = q59; generalize val 60 = q60; generalize val 61 = q61; generalize val 62 = q62; generalize val 63 = q63; generalize val 64 = q64; generalize val 65 = q65; generalize val 66 = q66; generalize val 67 = q67
          simp only [List.setIfInBounds_toArray, List.set_cons_succ, List.set_cons_zero]
          have F5' : Fr (fun _ => False) w5 w' := (Fr.refl (fun _ => False) w5).drew.trans hf fun _ _ h => h
          have J6 := HJ5.out.fr0 F5'
          have zc := J6.zcell hj2
          obtain ⟨c7, i7, _, _⟩ := J6.zz
          have z0 := i7.frozen j
          have S10 := J6.stamp hj2 la
          refine tail1 rfl rfl rfl (w' := w'.setCell ⟨p.gZ, j, none⟩ (.int .i64 la)) (by go_simp) ?_
          have J7 : Hid (Jm (w'.setCell ⟨p.gZ, j, none⟩ (.int .i64 la)) base (n + 1) p C (ks.set j ⟨ks[j].rb, v', r1, ⟨x0, x1, x2, x3⟩, la⟩)) := Lib.hid (by
            have k := S10.1
            rw [List.set_set] at k
            simpa only [List.getElem_set_self] using k)
          have HF7 := Lib.hid ((HF5.out.trans F5' fun _ _ h => h.elim).trans S10.2 fun q _ hq => .inr (.inl hq))
          clear S10 zc z0 i7 J6 F5' hf HRC HLC HJ5 J5 HF5
          go_wp2_with fail
          generalize World.setCell _ _ _ = w7 at *
          go_ret
          exact ⟨rfl, ⟨ks[j].rb, v', r1, ⟨x0, x1, x2, x3⟩, la⟩, by show Km.mk r1 _ la = _; rw [HST.out, HLA.out], rfl, J7.out, HF7.out, fun q hq => Jf.turn hj HV.out hq⟩
    · have e3 : e2 = 3 := (HE2.out : e2 = 0 ∨ e2 = 3).resolve_left he2
      subst e3
      go_wp2_with fail
      go_ret
      exact ⟨rfl, ⟨ks[j].rb, v', r1, ks[j].s, ks[j].z⟩, rfl, rfl, H4.out, HF4.out, fun q hq => Jf.turn hj HV.out hq⟩
  · have hb : (e0 != 0) = true := by simpa using he
    simp only [if_neg he]
    clear HT3 KH KR
    go_enter Try.func16, Try.ntmps16
    go_wp2_with fail
    refine KT.mono ?_
    rintro e w1 ⟨rfl, v', hmx, f1, hv'⟩
    have H1 : Hid (Jm w1 base (n + 1) p C (ks.set j ⟨ks[j].rb, v', r1, ks[j].s, ks[j].z⟩)) := Lib.hid (HJ.out.turn hj (HRB.out ▸ f1) (HRB.out ▸ hmx) hv')
    have HF1 : Hid (Fr (Jf p ks) w w1) := Lib.hid (f1.mono fun q _ hq => .inr (.inr ⟨_, hmj, by rw [← HRB.out]; exact hq⟩))
    have HV := Lib.hid hv'
    clear f1 hmx hv' KT p9 p10 p11 c9
    go_wp2_with fail
    go_ret
    exact ⟨⟨ks[j].rb, v', r1, ks[j].s, ks[j].z⟩, rfl, rfl, rfl, H1.out, HF1.out, fun q hq => Jf.turn hj HV.out hq⟩
end
end Go.Proofs.Ytfmhfngilimhjaa.Im

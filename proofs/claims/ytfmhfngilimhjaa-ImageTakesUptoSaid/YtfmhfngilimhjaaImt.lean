/- The contracts of the image's calls: hear, Take, fresh, Alive, Lost. -/
import Derived.Test.YtfmhfngilimhjaaImn
namespace Go.Proofs.Ytfmhfngilimhjaa.Im
open Go.RowKit Li

theorem and5 {a b c d e : Prop} (h : a ∧ b ∧ c ∧ d) (k : e) : a ∧ b ∧ c ∧ d ∧ e := ⟨h.1, h.2.1, h.2.2.1, h.2.2.2, k⟩
set_option maxHeartbeats 1000000 in
theorem hear_new {w : World} {b : Nat} {ks : List Kc} {C : Te.Cf} (h : Im w b ks C) {j : Nat} (hj : j < ks.length) (now : Int) (s : ByteArray) (hn : now ≤ 9223372036854775807) (hl0 : 0 ≤ ks[j].r.lost) (hl : ks[j].r.lost ≤ 4611686018427387904) :
    Calls Try.prog 43 #[.pointer (some ⟨b, j * 10, none⟩), .int .i64 now, .string s] w fun e w' => ∃ k : Kc, e = .returned (.int .i64 (ks[j].m.hear ks[j].h.st.hs now (readL (bytesOf s))).2) ∧ k.m = (ks[j].m.hear ks[j].h.st.hs now (readL (bytesOf s))).1 ∧ k.h = ks[j].h ∧ k.rb = ks[j].rb ∧ Im w' b (ks.set j k) C ∧ Fr (fun q => q = b ∨ q = ks[j].rb) w w' ∧ (k.s = ks[j].s ∨ k.s.New w.heap.size) := by
  have hm := List.getElem_mem hj
  have KT := take_any (h.ok _ hm).rv now s hn hl0 hl
  have c0 := (h.ctl hj).1
  have HI := Lib.hid h
  have HF := Lib.hid (rfl : (ks[j].m.hear ks[j].h.st.hs now (readL (bytesOf s))) = (ks[j].m.hear ks[j].h.st.hs now (readL (bytesOf s))))
  unfold Km.hear at HF ⊢
  have hmr : ks[j].m.r = ks[j].r := rfl
  rw [hmr] at HF ⊢
  clear hmr HF
  generalize ks[j].r.take now (readL (bytesOf s)) = TK at *
  obtain ⟨x, e, r1⟩ := TK
  simp only at KT ⊢
  have hne := Lib.hid (h.ne hm)
  clear h hm
  by_cases he : e = 0
  · subst he
    generalize hRS : Te.rstL ks[j].h.st.hs x = RS
    have HRS := Lib.hid hRS
    clear hRS
    obtain ⟨sx, e2⟩ := RS
    simp only
    go_enter Try.func43, Try.ntmps43
    go_wp2_with (go_at_call 71; refine KT.mono ?_; rintro e w1 ⟨rfl, hrv, f1⟩; have h1 := HI.out.turn hj f1 hrv; have HF1 := Lib.hid f1; obtain ⟨d0, d1, d2, d3, d4, d5, d6, d7, d8, d9⟩ := h1.ctls hj; clear KT hrv f1 c0)
    have hj2 : j < (ks.set j { ks[j] with r := r1 }).length := by rw [List.length_set]; exact hj
    have hko := (h1.ok _ (List.getElem_mem hj2)).h
    rw [List.getElem_set_self] at hko
    have KR := Te.rstatus_x hko ⟨x.toArray⟩ w1
    rw [show bytesOf ⟨x.toArray⟩ = x from rfl] at KR
    simp only at KR
    have H1 := Lib.hid h1
    rw [HRS.out] at KR
    simp only at KR
    clear h1 hko d0 d1 d2 d3 d4 d5 d6 d7 d8 d9
    go_wp2_with fail
    refine KR.mono ?_
    rintro e w2 ⟨x0, x1, x2, x3, rfl, hst, hok, hnew, f2⟩
    have h2 := H1.out.fr0 f2
    have H2 := Lib.hid h2
    have HF2 := Lib.hid f2
    have HOK := Lib.hid hok
    have HNEW := Lib.hid hnew
    have HST := Lib.hid hst
    clear h2 f2 hok hnew hst KR
    by_cases he : e2 = 0
    · subst he
      go_wp2_with fail
      have ib := Is.new w2 65 #[.slice x0.A x0.l.length x0.c, .slice x1.A x1.l.length x1.c, .slice x2.A x2.l.length x2.c, .slice x3.A x3.l.length x3.c]
      have h3 := H2.out.fr0 ((Fr.refl (fun _ => False) w2).alloc (.cells #[.slice x0.A x0.l.length x0.c, .slice x1.A x1.l.length x1.c, .slice x2.A x2.l.length x2.c, .slice x3.A x3.l.length x3.c] 65))
      have hbw := H2.out.lt
      have HF3 := Lib.hid ((HF1.out.trans HF2.out fun _ _ h => h.elim).alloc (.cells #[.slice x0.A x0.l.length x0.c, .slice x1.A x1.l.length x1.c, .slice x2.A x2.l.length x2.c, .slice x3.A x3.l.length x3.c] 65))
      have HOK3 := Lib.hid (HOK.out.fr ((Fr.refl (fun _ => False) w2).alloc (.cells #[.slice x0.A x0.l.length x0.c, .slice x1.A x1.l.length x1.c, .slice x2.A x2.l.length x2.c, .slice x3.A x3.l.length x3.c] 65)))
      have h3l : ks.length ≤ 4 := by have := h3.le; rw [List.length_set] at this; exact this
      have hbw' : w2.heap.size ≠ b := by omega
      generalize w2.alloc _ = w3 at *
      have hk3 := h3.ok _ (List.getElem_mem hj2)
      rw [List.getElem_set_self] at hk3
      have KL := last_any hk3.rv.drew
      obtain ⟨cs, is3, lay⟩ := h3.is
      have m3 := Te.four_cells ib.drew
      obtain ⟨d0, _, _, _, _, d5, d6, d7, d8, d9⟩ := h3.ctls hj
      have d0' : w3.drew.cell? ⟨b, j * 10, none⟩ = some (.pointer (some ⟨ks[j].rb, 0, none⟩)) := d0
      have d5' : w3.cell? ⟨b, j * 10 + 5, none⟩ = some _ := d5
      have d6' : w3.cell? ⟨b, j * 10 + 5 + 1, none⟩ = some _ := d6
      have d7' : w3.cell? ⟨b, j * 10 + 5 + 2, none⟩ = some _ := d7
      have d8' : w3.cell? ⟨b, j * 10 + 5 + 3, none⟩ = some _ := d8
      have d9' : w3.cell? ⟨b, j * 10 + 5 + 4, none⟩ = some _ := d9
      have z5 := is3.frozen (j * 10 + 5)
      have z6 := is3.frozen (j * 10 + 5 + 1)
      have z7 := is3.frozen (j * 10 + 5 + 2)
      have z8 := is3.frozen (j * 10 + 5 + 3)
      have z9 := is3.frozen (j * 10 + 5 + 4)
      have H3 := Lib.hid h3
      have IB := Lib.hid ib
      have IS := Lib.hid is3
      have LAY := Lib.hid lay
      clear h3 hk3 is3 lay ib d0 d5 d6 d7 d8 d9
      go_region_held3 (fun Wx => Wx.cell? ⟨w2.heap.size, 0, none⟩ = some (.slice x0.A x0.l.length x0.c) ∧ Wx.cell? ⟨w2.heap.size, 1, none⟩ = some (.slice x1.A x1.l.length x1.c) ∧ Wx.cell? ⟨w2.heap.size, 2, none⟩ = some (.slice x2.A x2.l.length x2.c) ∧ Wx.cell? ⟨w2.heap.size, 3, none⟩ = some (.slice x3.A x3.l.length x3.c) ∧ Wx.cell? ⟨b, j * 10, none⟩ = some (.pointer (some ⟨ks[j].rb, 0, none⟩))) (first | with_reducible exact ⟨m3.1, m3.2.1, m3.2.2.1, m3.2.2.2, d0'⟩ | exact and5 (IB.out.far5d hbw' _ rfl) (IS.out.head5d (o := j * 10 + 5) (by have := LAY.out.size; have := h3l; omega) (by omega) d0' _ rfl)) (first | (go_at_call 73; refine KL.mono ?_; rintro e w4 ⟨rfl, rfl⟩))
      rename_i hHeld
      clear hHeld m3 d0' d5' d6' d7' d8' d9' z5 z6 z7 z8 z9
      go_wp2_with fail
      go_ret
      generalize hW : World.setCell _ ⟨b, j * 10 + 5 + 4, none⟩ _ = W
      have i7 : Is W b 93 (splice cs (j * 10 + 5) [.slice x0.A x0.l.length x0.c, .slice x1.A x1.l.length x1.c, .slice x2.A x2.l.length x2.c, .slice x3.A x3.l.length x3.c, .int .i64 r1.last]) := by
        rw [← hW]
        exact IS.out.put5
      have f7 : Fr (fun q => q = b) w3 W := by
        rw [← hW]
        exact Fr.set5 (g := b) (Fr.refl (fun q => q = b) w3) (.inl rfl)
      clear hW
      have e := splice_said LAY.out H3.out.le hj2 ⟨ks[j].rb, r1, ks[j].h, ⟨x0, x1, x2, x3⟩, r1.last⟩ (by rw [List.getElem_set_self]) (by rw [List.getElem_set_self])
      have i8 := i7
      rw [show splice cs (j * 10 + 5) _ = _ from e] at i8
      have hrb : (ks.set j { ks[j] with r := r1 })[j].rb = ks[j].rb := by rw [List.getElem_set_self]
      have hm2 := List.getElem_mem hj2
      have h3o := H3.out.ok _ hm2
      have h3f := H3.out.far _ hm2
      rw [List.getElem_set_self] at h3o h3f
      have r8 := H3.out.set hj2 LAY.out (k := ⟨ks[j].rb, r1, ks[j].h, ⟨x0, x1, x2, x3⟩, r1.last⟩) ⟨h3o.rv.fr f7 (fun c => hne.out c), h3o.h.off f7 (h3f.1.mono fun q hq => .inl hq), HOK3.out.off f7 (HNEW.out.off fun q hq => hq ▸ H1.out.lt)⟩ hrb.symm h3f.1 (HNEW.out.off fun q hq => H1.out.foot_lt hq) i8 (f7.mono fun q _ hq => .inl hq)
      rw [List.set_set] at r8
      exact ⟨rfl, ⟨ks[j].rb, r1, ks[j].h, ⟨x0, x1, x2, x3⟩, r1.last⟩, by show Km.mk _ _ _ = _; rw [HST.out], rfl, rfl, r8.fr0 (Fr.refl _ W).drew, (HF3.out.mono (S' := fun q => q = b ∨ q = ks[j].rb) fun q _ hq => .inr hq).trans f7.drew fun q _ hq => .inl hq, .inr (Te.Sta.New.mono HNEW.out HF1.out.size)⟩
    · have hb : (e2 == 0) = false := by simpa using he
      go_wp2_with fail
      go_ret
      exact ⟨rfl, { ks[j] with r := r1 }, rfl, rfl, rfl, H2.out.fr0 ((Fr.refl _ w2).alloc _), ((HF1.out.trans HF2.out fun _ _ h => h.elim).alloc _).mono fun q _ hq => .inr hq, .inl rfl⟩
  · have hb : (e != 0) = true := by simpa using he
    go_enter Try.func43, Try.ntmps43
    go_wp2_with (go_at_call 71; refine KT.mono ?_; rintro e w1 ⟨rfl, hrv, f1⟩; have h1 := HI.out.turn hj f1 hrv; have HF1 := Lib.hid f1; clear KT hrv f1 c0)
    go_ret
    exact ⟨rfl, { ks[j] with r := r1 }, rfl, rfl, rfl, h1, HF1.out.mono fun q _ hq => .inr hq, .inl rfl⟩

theorem hear_any {w : World} {b : Nat} {ks : List Kc} {C : Te.Cf} (h : Im w b ks C) {j : Nat} (hj : j < ks.length) (now : Int) (s : ByteArray) (hn : now ≤ 9223372036854775807) (hl0 : 0 ≤ ks[j].r.lost) (hl : ks[j].r.lost ≤ 4611686018427387904) :
    Calls Try.prog 43 #[.pointer (some ⟨b, j * 10, none⟩), .int .i64 now, .string s] w fun e w' => ∃ k : Kc, e = .returned (.int .i64 (ks[j].m.hear ks[j].h.st.hs now (readL (bytesOf s))).2) ∧ k.m = (ks[j].m.hear ks[j].h.st.hs now (readL (bytesOf s))).1 ∧ k.h = ks[j].h ∧ k.rb = ks[j].rb ∧ Im w' b (ks.set j k) C ∧ Fr (fun q => q = b ∨ q = ks[j].rb) w w' :=
  (hear_new h hj now s hn hl0 hl).mono fun _ _ ⟨k, a, b, c, d, e, f, _⟩ => ⟨k, a, b, c, d, e, f⟩

theorem fresh_any {w : World} {b o : Nat} {z : Int} (hc : w.cell? ⟨b, o + 4, none⟩ = some (.int .i64 z)) (hz : -1 ≤ z) (now age : Int) (hn : now ≤ 9223372036854775807) :
    Calls Try.prog 46 #[.pointer (some ⟨b, o, none⟩), .int .i64 now, .int .i64 age] w fun e w' => e = .returned (.bool (decide (z ≠ -1) && (decide (z ≤ now) && decide (now - z ≤ age)))) ∧ w' = w := by
  by_cases h0 : z = -1
  · have d0 : (z != -1) = false := by simpa using h0
    have e0 : decide (z ≠ -1) = false := by simpa using h0
    clear h0
    rw [e0, Bool.false_and]
    clear e0
    go_enter Try.func46, Try.ntmps46
    go_wp2_with fail
    go_ret
    exact ⟨rfl, rfl⟩
  · have d0 : (z != -1) = true := by simpa using h0
    have e0 : decide (z ≠ -1) = true := by simpa using h0
    rw [e0, Bool.true_and]
    clear e0
    by_cases h1 : z ≤ now
    · have d1 : decide (z ≤ now) = true := decide_eq_true h1
      have hw : wrap64 (now - z) = now - z := IntWalk.wrap64_in _ ⟨by omega, by omega⟩
      rw [d1, Bool.true_and]
      obtain ⟨q, hq⟩ : ∃ q, q = decide (now - z ≤ age) := ⟨_, rfl⟩
      rw [← hq]
      have hq' := hq.symm
      clear hq h0 h1
      go_enter Try.func46, Try.ntmps46
      go_wp2_with fail
      go_ret
      exact ⟨rfl, rfl⟩
    · have d1 : decide (z ≤ now) = false := decide_eq_false h1
      rw [d1, Bool.false_and]
      clear h0 h1
      go_enter Try.func46, Try.ntmps46
      go_wp2_with fail
      go_ret
      exact ⟨rfl, rfl⟩

def Kc.fresh (k : Kc) (now age : Int) : Bool := k.m.fresh now age
theorem alive_in {w : World} {b : Nat} {ks : List Kc} {C : Te.Cf} (h : Im w b ks C) (h4 : ks.length = 4) {j : Nat} (hj : j < ks.length) (hz : -1 ≤ ks[j].z) (now : Int) (hn : now ≤ 9223372036854775807) :
    Calls Try.prog 17 #[.pointer (some ⟨b, 0, none⟩), .int .i64 now, .int .i64 (j : Int)] w fun e w' => e = .returned (.bool (ks[j].m.fresh now C.t.age)) ∧ Fr (fun _ => False) w w' := by
  have KH := fun (u : Fro w) => (has_any b (j : Int) u.w).mono fun e w' (k : e = .returned (.bool (decide (0 ≤ (j : Int)) && decide ((j : Int) < 4))) ∧ w' = u.w) => (⟨k.1, k.2.symm⟩ : e = .returned (.bool (decide (0 ≤ (j : Int)) && decide ((j : Int) < 4))) ∧ u.w = w')
  have e1 : (decide (0 ≤ (j : Int)) && decide ((j : Int) < 4)) = true := by simp; omega
  simp only [e1] at KH
  have hc : w.cell? ⟨b, j * 10 + 5 + 4, none⟩ = some (.int .i64 ks[j].z) := (h.ctlf hj rfl).2.2.2.2.2.2.2.2.2
  have hcf := cell_fro hc
  have KF := fun (u : Fro w) => (fresh_any (hcf u) hz now C.t.age hn).mono fun e w' (k : e = .returned (.bool (ks[j].m.fresh now C.t.age)) ∧ w' = u.w) => (⟨k.1, k.2.symm⟩ : e = .returned (.bool (ks[j].m.fresh now C.t.age)) ∧ u.w = w')
  have ha := cell_fro (by obtain ⟨cs, i, l⟩ := h.is; exact (i.cell 40).trans l.age : w.cell? ⟨b, 40, none⟩ = some (.int .i64 C.t.age))
  have hj4 : (j : Int) < 4 := by omega
  generalize ks[j].m.fresh now C.t.age = q at *
  clear h hc hcf e1
  go_enter Try.func17, Try.ntmps17
  go_wp2_with fail
  refine region_fro (by kernel_rfl) (by kernel_rfl) ?_
  repeat (go_big_quiet_step (first | (go_at_call 42; with_reducible exact call_fro_same (KH _)) | (go_at_call 46; with_reducible exact call_fro_same (KF _))))
  refine wpQuiet_nil ?_
  rintro w3 ⟨⟨w9, f3⟩, hww⟩
  replace hww : w3 = w9 := hww
  subst hww
  go_wp2_with fail
  go_ret
  exact ⟨rfl, f3⟩
theorem alive_out {w : World} (b : Nat) {oc : Int} (ho : ¬ (0 ≤ oc ∧ oc < 4)) (now : Int) :
    Calls Try.prog 17 #[.pointer (some ⟨b, 0, none⟩), .int .i64 now, .int .i64 oc] w fun e w' => e = .returned (.bool false) ∧ Fr (fun _ => False) w w' := by
  have KH := fun (u : Fro w) => (has_any b oc u.w).mono fun e w' (k : e = .returned (.bool (decide (0 ≤ oc) && decide (oc < 4))) ∧ w' = u.w) => (⟨k.1, k.2.symm⟩ : e = .returned (.bool (decide (0 ≤ oc) && decide (oc < 4))) ∧ u.w = w')
  have e1 : (decide (0 ≤ oc) && decide (oc < 4)) = false := by
    rw [Bool.and_eq_false_iff, decide_eq_false_iff_not, decide_eq_false_iff_not]
    omega
  simp only [e1] at KH
  clear e1 ho
  go_enter Try.func17, Try.ntmps17
  go_wp2_with fail
  refine region_fro (by kernel_rfl) (by kernel_rfl) ?_
  repeat (go_big_quiet_step (first | (go_at_call 42; with_reducible exact call_fro_same (KH _))))
  refine wpQuiet_nil ?_
  rintro w3 ⟨⟨w9, f3⟩, hww⟩
  replace hww : w3 = w9 := hww
  subst hww
  go_wp2_with fail
  go_ret
  exact ⟨rfl, f3⟩
end Go.Proofs.Ytfmhfngilimhjaa.Im

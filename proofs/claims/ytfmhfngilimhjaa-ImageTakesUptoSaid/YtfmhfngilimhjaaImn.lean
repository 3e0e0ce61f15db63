/- The contracts of the image's calls: has, newController, New. -/
import Derived.Test.YtfmhfngilimhjaaIm
import Derived.Deep.RegionHeld3
namespace Go.Proofs.Ytfmhfngilimhjaa.Im
open Go.RowKit Li

theorem has_any (b : Nat) (oc : Int) (w : World) :
    Calls Try.prog 42 #[.pointer (some ⟨b, 0, none⟩), .int .i64 oc] w fun e w' => e = .returned (.bool (decide (0 ≤ oc) && decide (oc < 4))) ∧ w' = w := by
  by_cases h0 : 0 ≤ oc
  · by_cases h1 : oc < 4
    · have d0 : decide (0 ≤ oc) = true := decide_eq_true h0
      have d1 : decide (oc < 4) = true := decide_eq_true h1
      go_enter Try.func42, Try.ntmps42
      go_wp2
      go_ret
      simp [d0, d1]
    · have d0 : decide (0 ≤ oc) = true := decide_eq_true h0
      have d1 : decide (oc < 4) = false := decide_eq_false h1
      go_enter Try.func42, Try.ntmps42
      go_wp2
      go_ret
      simp
  · have d0 : decide (0 ≤ oc) = false := decide_eq_false h0
    go_enter Try.func42, Try.ntmps42
    go_wp2
    go_ret
    simp

set_option maxHeartbeats 1000000 in
theorem newctl_any {C : Te.Cf} {w : World} (hC : C.Ok w) (oc : Int) :
    Calls Try.prog 40 #[C.val, .int .i64 oc] w fun e w' => ∃ k : Kc, e = .returned (.agg k.arr) ∧ k.m = ⟨R.new oc C.t.age, Te.nilSta.st, -1⟩ ∧ k.h.st = Te.shL C oc ∧ k.Ok w' ∧ k.h.New w.heap.size ∧ k.s = Te.nilSta ∧ w.heap.size ≤ k.rb ∧ (k.h.Off fun q => q = k.rb) ∧ Fr (fun _ => False) w w' := by
  have KN := fun W => newrecv_any oc C.t.age W
  have KS := fun (W : World) (h : C.Ok W) => (Te.shape_any h oc).mono fun e w' (k : ∃ x : Te.Sta, e = .returned x.val ∧ x.st = Te.shL C oc ∧ x.Ok w' ∧ x.New W.heap.size ∧ Fr (fun _ => False) W w') => (⟨k.choose.occ, k.choose.pos, k.choose.shut, k.choose.lamp, k.choose_spec⟩ : ∃ x0 x1 x2 x3 : Te.L3, e = .returned (Te.Sta.mk x0 x1 x2 x3).val ∧ (Te.Sta.mk x0 x1 x2 x3).st = Te.shL C oc ∧ (Te.Sta.mk x0 x1 x2 x3).Ok w' ∧ (Te.Sta.mk x0 x1 x2 x3).New W.heap.size ∧ Fr (fun _ => False) W w')
  unfold Te.Cf.val Te.Cf.cells at *
  simp only [Te.Sta.val] at KS
  have ib := (Is.new w 30 C.arr).alloc (.cells #[.pointer none, .slice none 0 0, .slice none 0 0, .slice none 0 0, .slice none 0 0, .slice none 0 0, .slice none 0 0, .slice none 0 0, .slice none 0 0, .int .i64 0] 90)
  have ic := Is.new (w.alloc (.cells C.arr 30)) 90 #[.pointer none, .slice none 0 0, .slice none 0 0, .slice none 0 0, .slice none 0 0, .slice none 0 0, .slice none 0 0, .slice none 0 0, .slice none 0 0, .int .i64 0]
  have fb := ((Fr.refl (fun _ => False) w).alloc (.cells C.arr 30)).alloc (.cells #[.pointer none, .slice none 0 0, .slice none 0 0, .slice none 0 0, .slice none 0 0, .slice none 0 0, .slice none 0 0, .slice none 0 0, .slice none 0 0, .int .i64 0] 90)
  simp only [World.size_alloc] at ic
  unfold Te.Cf.arr at *
  have IB := Lib.hid ib
  have IC := Lib.hid ic
  have FB := Lib.hid fb
  have HC := Lib.hid hC
  clear ib ic fb hC
  go_enter Try.func40, Try.ntmps40
  go_wp2_with fail
  generalize (w.alloc _).alloc _ = w2 at *
  have s2 := Te.nine_cells (IB.out.drew)
  have g2 := FB.out.drew
  have HSZ : Hid (w.heap.size + 1 < w2.heap.size) := Lib.hid IC.out.lt
  go_region_held3 (fun Wx => Wx.cell? ⟨w.heap.size, 0, none⟩ = some (.slice C.A1 C.l.length C.c1) ∧ Wx.cell? ⟨w.heap.size, 1, none⟩ = some (.slice C.A2 C.n2 C.c2) ∧ Wx.cell? ⟨w.heap.size, 2, none⟩ = some (.slice C.A3 C.sg.length C.c3) ∧ Wx.cell? ⟨w.heap.size, 3, none⟩ = some (.slice C.A4 C.cr.length C.c4) ∧ Wx.cell? ⟨w.heap.size, 4, none⟩ = some (.slice C.A5 C.n5 C.c5) ∧ Wx.cell? ⟨w.heap.size, 5, none⟩ = some (.int .i64 C.t.age) ∧ Wx.cell? ⟨w.heap.size, 6, none⟩ = some (.int .i64 C.t.brake) ∧ Wx.cell? ⟨w.heap.size, 7, none⟩ = some (.int .i64 C.t.hold) ∧ Wx.cell? ⟨w.heap.size, 8, none⟩ = some (.int .i64 C.t.budget)) (first | with_reducible exact s2 | with_reducible exact s3 | with_reducible exact s4 | exact Te.nine_cells (J4.out.far10 (by omega))) (first | (go_at_call 9; with_reducible refine (KS _ (HC.out.fr g3)).mono ?_; rintro e w4 ⟨x0, x1, x2, x3, rfl, hst, hok, hnew, f4⟩; have g4 := Te.fr_nil g3 f4; have s4 := Te.nine_cells (IB.out.fr (Te.fr_nil y3 f4) id); have i4 := IC.out.fr (Te.fr_nil y3 f4) id; have z0 := i4.frozen 0; have z1 := i4.frozen 1; have z2 := i4.frozen 2; have z3 := i4.frozen 3; have z4 := i4.frozen 4; have z5 := i4.frozen 5; have z6 := i4.frozen 6; have z7 := i4.frozen 7; have z8 := i4.frozen 8; have z9 := i4.frozen 9; have n0 := Te.ten_cells9 i4; have HF4 := Lib.hid f4; have HOK := Lib.hid hok; have HNEW := Lib.hid hnew; have HST := Lib.hid hst; have HG4 := Lib.hid g4; have HI4 := Lib.hid i4; have J4 := Lib.hid (IB.out.fr (Te.fr_nil y3 f4) id); clear hst hok hnew f4 i4 g4) | (go_at_call 70; with_reducible refine (KN _).mono ?_; rintro e w3 ⟨rfl, hrv, f3⟩; have HRV := Lib.hid hrv; clear hrv; have g3 := Te.fr_nil g2 f3; have y3 : Fr (fun _ => False) w2 w3 := Te.fr_nil (Fr.refl _ w2).drew f3; have s3 := Te.nine_cells (IB.out.fr y3 id); clear f3))
  rename_i hHeld
  clear hHeld s2 s3 s4 z0 z1 z2 z3 z4 z5 z6 z7 z8 z9 n0
  go_wp2_with fail
  generalize hW : World.setCell _ ⟨w.heap.size + 1, 9, none⟩ _ = W
  have i7 : Is W (w.heap.size + 1) 90 #[.pointer (some ⟨w2.heap.size, 0, none⟩), .slice x0.A x0.l.length x0.c, .slice x1.A x1.l.length x1.c, .slice x2.A x2.l.length x2.c, .slice x3.A x3.l.length x3.c, .slice none 0 0, .slice none 0 0, .slice none 0 0, .slice none 0 0, .int .i64 (-1)] := by
    rw [← hW]
    exact Is.set10 HI4.out
  have f7 : Fr (fun q => q = w.heap.size + 1) w4 W := by
    rw [← hW]
    exact Fr.set10 (g := w.heap.size + 1) (Fr.refl (fun q => q = w.heap.size + 1) w4) (.inl rfl)
  clear hW
  obtain ⟨m0, m1, m2, m3, m4, m5, m6, m7, m8, m9⟩ := Te.ten_cells9 i7
  have hz3 := g3.size
  have hz2 := HSZ.out
  have hz23 := y3.size
  have hnw := HNEW.out
  have hd : w2.drew.heap.size = w2.heap.size := rfl
  have offs : ∀ q, w3.heap.size ≤ q → ¬ q = w.heap.size + 1 := fun q hq e => by omega
  refine bodyPost_ret (v := .agg #[.pointer (some ⟨w2.heap.size, 0, none⟩), .slice x0.A x0.l.length x0.c, .slice x1.A x1.l.length x1.c, .slice x2.A x2.l.length x2.c, .slice x3.A x3.l.length x3.c, .slice none 0 0, .slice none 0 0, .slice none 0 0, .slice none 0 0, .int .i64 (-1)]) (by simp [results, Try.results40, go_sem, m0, m1, m2, m3, m4, m5, m6, m7, m8, m9]) rfl ⟨⟨w2.heap.size, R.new oc C.t.age, ⟨x0, x1, x2, x3⟩, Te.nilSta, -1⟩, rfl, rfl, HST.out, ⟨(Is.fr HRV.out HF4.out id).fr f7 (fun e => by omega), HOK.out.off f7 (Te.Sta.New.off' hnw offs), Te.nilSta_ok W⟩, hnw.mono hz3, rfl, by show w.heap.size ≤ w2.heap.size; omega, hnw.off fun q (hq : q = w2.heap.size) => by have := HRV.out.lt; omega, HG4.out.trans f7 fun q hq e => by omega⟩

set_option maxHeartbeats 1000000 in
theorem new_any {C : Te.Cf} {w : World} (hC : C.Ok w) :
    Calls Try.prog 13 #[C.val] w fun e w' => ∃ (b : Nat) (ks : List Kc), e = .returned (.pointer (some ⟨b, 0, none⟩)) ∧ Im w' b ks C ∧ ks.length = 4 ∧ (∀ j (h : j < ks.length), ks[j].m = ⟨R.new (j : Nat) C.t.age, Te.nilSta.st, -1⟩ ∧ ks[j].h.st = Te.shL C (j : Nat)) ∧ (∀ q, Foot b ks q → w.heap.size ≤ q) ∧ (∀ k ∈ ks, k.h.New w.heap.size ∧ k.s = Te.nilSta) ∧ Fr (fun _ => False) w w' := by
  have KC := fun (W : World) (oc : Int) (h : C.Ok W) => newctl_any h oc
  unfold Te.Cf.val Te.Cf.cells at *
  simp only [Kc.arr] at KC
  have ib := Is.new w 30 #[.slice C.A1 C.l.length C.c1, .slice C.A2 C.n2 C.c2, .slice C.A3 C.sg.length C.c3, .slice C.A4 C.cr.length C.c4, .slice C.A5 C.n5 C.c5, .int .i64 C.t.age, .int .i64 C.t.brake, .int .i64 C.t.hold, .int .i64 C.t.budget]
  have s0 := Te.nine_cells ib
  have s0d := Te.nine_cells ib.drew
  have ib2 := ib.alloc (.cells #[.pointer none, .slice none 0 0, .slice none 0 0, .slice none 0 0, .slice none 0 0, .slice none 0 0, .slice none 0 0, .slice none 0 0, .slice none 0 0, .int .i64 0, .pointer none, .slice none 0 0, .slice none 0 0, .slice none 0 0, .slice none 0 0, .slice none 0 0, .slice none 0 0, .slice none 0 0, .slice none 0 0, .int .i64 0, .pointer none, .slice none 0 0, .slice none 0 0, .slice none 0 0, .slice none 0 0, .slice none 0 0, .slice none 0 0, .slice none 0 0, .slice none 0 0, .int .i64 0, .pointer none, .slice none 0 0, .slice none 0 0, .slice none 0 0, .slice none 0 0, .slice none 0 0, .slice none 0 0, .slice none 0 0, .slice none 0 0, .int .i64 0, .int .i64 C.t.age, .int .i64 (C.l.length : Nat), .int .i64 (C.cr.length : Nat), .int .i64 (C.sg.length : Nat)] 93)
  have fb := ((Fr.refl (fun _ => False) w).alloc (.cells #[.slice C.A1 C.l.length C.c1, .slice C.A2 C.n2 C.c2, .slice C.A3 C.sg.length C.c3, .slice C.A4 C.cr.length C.c4, .slice C.A5 C.n5 C.c5, .int .i64 C.t.age, .int .i64 C.t.brake, .int .i64 C.t.hold, .int .i64 C.t.budget] 30)).alloc (.cells #[.pointer none, .slice none 0 0, .slice none 0 0, .slice none 0 0, .slice none 0 0, .slice none 0 0, .slice none 0 0, .slice none 0 0, .slice none 0 0, .int .i64 0, .pointer none, .slice none 0 0, .slice none 0 0, .slice none 0 0, .slice none 0 0, .slice none 0 0, .slice none 0 0, .slice none 0 0, .slice none 0 0, .int .i64 0, .pointer none, .slice none 0 0, .slice none 0 0, .slice none 0 0, .slice none 0 0, .slice none 0 0, .slice none 0 0, .slice none 0 0, .slice none 0 0, .int .i64 0, .pointer none, .slice none 0 0, .slice none 0 0, .slice none 0 0, .slice none 0 0, .slice none 0 0, .slice none 0 0, .slice none 0 0, .slice none 0 0, .int .i64 0, .int .i64 C.t.age, .int .i64 (C.l.length : Nat), .int .i64 (C.cr.length : Nat), .int .i64 (C.sg.length : Nat)] 93)
  have ii := Is.new (w.alloc (.cells #[.slice C.A1 C.l.length C.c1, .slice C.A2 C.n2 C.c2, .slice C.A3 C.sg.length C.c3, .slice C.A4 C.cr.length C.c4, .slice C.A5 C.n5 C.c5, .int .i64 C.t.age, .int .i64 C.t.brake, .int .i64 C.t.hold, .int .i64 C.t.budget] 30)) 93 #[.pointer none, .slice none 0 0, .slice none 0 0, .slice none 0 0, .slice none 0 0, .slice none 0 0, .slice none 0 0, .slice none 0 0, .slice none 0 0, .int .i64 0, .pointer none, .slice none 0 0, .slice none 0 0, .slice none 0 0, .slice none 0 0, .slice none 0 0, .slice none 0 0, .slice none 0 0, .slice none 0 0, .int .i64 0, .pointer none, .slice none 0 0, .slice none 0 0, .slice none 0 0, .slice none 0 0, .slice none 0 0, .slice none 0 0, .slice none 0 0, .slice none 0 0, .int .i64 0, .pointer none, .slice none 0 0, .slice none 0 0, .slice none 0 0, .slice none 0 0, .slice none 0 0, .slice none 0 0, .slice none 0 0, .slice none 0 0, .int .i64 0, .int .i64 C.t.age, .int .i64 (C.l.length : Nat), .int .i64 (C.cr.length : Nat), .int .i64 (C.sg.length : Nat)]
  simp only [World.size_alloc] at ii
  have IB := Lib.hid ib2
  have FB := Lib.hid fb
  have II := Lib.hid ii
  have HC := Lib.hid hC
  clear ib ib2 fb ii hC
  go_enter Try.func13, Try.ntmps13
  go_wp2_with fail
  clear s0 s0d
  generalize (w.alloc _).alloc _ = w2 at *
  have hIm : Im w2 (w.heap.size + 1) [] C := ⟨⟨_, II.out, ⟨rfl, fun j hj => absurd hj (Nat.not_lt_zero j), rfl, rfl, rfl, rfl⟩⟩, Nat.zero_le _, fun k hk => absurd hk (by simp), fun k hk => absurd hk (by simp), List.nodup_nil⟩
  have HIM := Lib.hid hIm
  clear hIm II
  go_loopw [19] (fun v19 wr => ∃ ks : List Kc, ks.length ≤ 4 ∧ v19 = .int .i64 (ks.length : Nat) ∧ Im wr (w.heap.size + 1) ks C ∧ (∀ j (h : j < ks.length), ks[j].m = ⟨R.new (j : Nat) C.t.age, Te.nilSta.st, -1⟩ ∧ ks[j].h.st = Te.shL C (j : Nat)) ∧ (∀ k ∈ ks, k.h.New w.heap.size ∧ k.s = Te.nilSta ∧ w.heap.size ≤ k.rb) ∧ Is wr w.heap.size 30 #[.slice C.A1 C.l.length C.c1, .slice C.A2 C.n2 C.c2, .slice C.A3 C.sg.length C.c3, .slice C.A4 C.cr.length C.c4, .slice C.A5 C.n5 C.c5, .int .i64 C.t.age, .int .i64 C.t.brake, .int .i64 C.t.hold, .int .i64 C.t.budget] ∧ Fr (fun _ => False) w wr) (fun i _ => 4 - (intOf i).toNat)
  case atStart => exact ⟨[], Nat.zero_le _, rfl, HIM.out, fun j h => absurd h (Nat.not_lt_zero j), fun k hk => absurd hk (by simp), IB.out, FB.out⟩
  case round =>
    clear IB FB
    obtain ⟨ks, hks, rfl, him, hm, hn, ib, fr⟩ := hrel
    by_cases h4 : ks.length < 4
    · have s0 := Te.nine_cells ib.drew
      have g0 := fr.drew
      have HM := Lib.hid hm
      have HN := Lib.hid hn
      have HI := Lib.hid him
      have HB := Lib.hid ib
      have hlt : w.heap.size + 1 < wr.heap.size := him.lt
      obtain ⟨cs, icc, lay⟩ := him.is
      have hcs : ks.length * 10 + 10 ≤ cs.size := by have := lay.size; omega
      have IC := Lib.hid icc
      have LAY := Lib.hid lay
      clear hm hn him ib icc lay
      go_wp2_with fail
      go_region_held3 (fun Wx => Wx.cell? ⟨w.heap.size, 0, none⟩ = some (.slice C.A1 C.l.length C.c1) ∧ Wx.cell? ⟨w.heap.size, 1, none⟩ = some (.slice C.A2 C.n2 C.c2) ∧ Wx.cell? ⟨w.heap.size, 2, none⟩ = some (.slice C.A3 C.sg.length C.c3) ∧ Wx.cell? ⟨w.heap.size, 3, none⟩ = some (.slice C.A4 C.cr.length C.c4) ∧ Wx.cell? ⟨w.heap.size, 4, none⟩ = some (.slice C.A5 C.n5 C.c5) ∧ Wx.cell? ⟨w.heap.size, 5, none⟩ = some (.int .i64 C.t.age) ∧ Wx.cell? ⟨w.heap.size, 6, none⟩ = some (.int .i64 C.t.brake) ∧ Wx.cell? ⟨w.heap.size, 7, none⟩ = some (.int .i64 C.t.hold) ∧ Wx.cell? ⟨w.heap.size, 8, none⟩ = some (.int .i64 C.t.budget)) (first | with_reducible exact s0 | with_reducible exact s1 | exact Te.nine_cells (JB.out.far10 (by omega))) (first | (go_at_call 40; with_reducible refine (KC _ _ (HC.out.fr g0)).mono ?_; rintro e w1 ⟨k, rfl, hkm, hkh, hkok, hkn, hks0, hkr, hko, f1⟩; have g1 := Te.fr_nil g0 f1; have y1 : Fr (fun _ => False) wr w1 := Te.fr_nil (Fr.refl _ wr).drew f1; have JB := Lib.hid (HB.out.fr y1 id); have s1 := Te.nine_cells JB.out; have j1 := IC.out.fr y1 id; have n1 := j1.tenz (ks.length * 10); obtain ⟨v0, v1, v2, v3, v4, v5, v6, v7, v8, v9, q1⟩ := j1.ten (o := ks.length * 10) hcs; have J1 := Lib.hid j1; have HK := Lib.hid (⟨hkm, hkh, hkok, hkn, hks0, hkr, hko⟩ : k.m = _ ∧ k.h.st = _ ∧ k.Ok w1 ∧ k.h.New _ ∧ k.s = _ ∧ _ ≤ k.rb ∧ k.h.Off _); have HG1 := Lib.hid g1; have HY1 := Lib.hid y1; clear j1 hkm hkh hkok hkn hks0 hkr hko f1 y1 g1))
      rename_i hHeld
      clear hHeld s0 s1 q1 n1
      go_wp2_with fail
      go_roundw
      case rel =>
        generalize hW : World.setCell _ ⟨w.heap.size + 1, ks.length * 10 + 9, none⟩ _ = W
        have i7 : Is W (w.heap.size + 1) 93 (splice cs (ks.length * 10) k.cells) := by
          rw [← hW]
          exact J1.out.put10
        have f7 : Fr (fun q => q = w.heap.size + 1) w1 W := by
          rw [← hW]
          exact Fr.set10 (g := w.heap.size + 1) (Fr.refl (fun q => q = w.heap.size + 1) w1) (.inl rfl)
        clear hW
        obtain ⟨hkm, hkh, hkok, hkn, hks0, hkr, hko⟩ := HK.out
        have hd : wr.drew.heap.size = wr.heap.size := rfl
        have hle := fr.size
        refine ⟨ks ++ [k], by simp; omega, by simp, HI.out.put h4 LAY.out HY1.out hkok hkr hkn hks0 hko i7 f7, fun j hj => ?_, fun x hx => ?_, JB.out.fr f7 (by omega), HG1.out.trans f7 fun q hq e => by omega⟩
        · rw [List.length_append, List.length_singleton] at hj
          by_cases hj2 : j < ks.length
          · rw [List.getElem_append_left hj2]
            exact HM.out j hj2
          · have e : j = ks.length := by omega
            subst e
            simp only [List.getElem_concat_length]
            exact ⟨hkm, hkh⟩
        · rcases List.mem_append.1 hx with hx | hx
          · exact HN.out x hx
          · rw [List.mem_singleton] at hx
            subst hx
            exact ⟨hkn.mono (by omega), hks0, by omega⟩
      case measure => simp [intOf]; omega
    · have e4 : ks.length = 4 := by omega
      have HM := Lib.hid hm
      have HN := Lib.hid hn
      have HI := Lib.hid him
      clear hm hn him ib
      go_wp2_with fail
      go_ret
      refine ⟨_, ks, rfl, HI.out, e4, HM.out, fun q hq => ?_, fun k hk => ⟨(HN.out k hk).1, (HN.out k hk).2.1⟩, fr⟩
      rcases hq with rfl | ⟨k, hk, rfl⟩
      · omega
      · exact (HN.out k hk).2.2
end Go.Proofs.Ytfmhfngilimhjaa.Im

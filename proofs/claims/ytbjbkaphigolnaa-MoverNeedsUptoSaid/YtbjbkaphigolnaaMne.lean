/- The contract of the document's SameNeeds at equal lists; the walk of MoverNeeds. -/
import Derived.Test.YtbjbkaphigolnaaMrn
import Derived.Test.YtbjbkaphigolnaaMrx
import Derived.Deep.RegionHeld3
import Derived.Deep.LoopGhost
namespace Go.Proofs.Ytbjbkaphigolnaa.Mv
open Go.RowKit

theorem sameneeds_any {w : World} {A A' : Option Addr} {c c' : Nat} {l : List Nd} (hl : Rd w A (cellsN l)) (hl' : Rd w A' (cellsN l)) (hlen : l.length ≤ 140737488355328) :
    Calls Try.prog 16 #[.slice A l.length c, .slice A' l.length c'] w fun e w' => e = .returned (.bool true) ∧ Fr (fun _ => False) w w' := by
  go_enter Try.func16, Try.ntmps16
  go_wp2
  go_loopw [13] (fun i wr => ∃ k, k ≤ l.length ∧ i = .int .i64 (k : Nat) ∧ Fr (fun _ => False) w wr) (fun i _ => l.length - (intOf i).toNat)
  case atStart => exact ⟨0, Nat.zero_le _, rfl, Fr.refl _ _⟩
  case round =>
    obtain ⟨k, hk, rfl, g1⟩ := hrel
    by_cases hlt : k < l.length
    · obtain ⟨g, o, rfl, c0, c1⟩ := rd_nd (hl.fr g1 fun _ _ => id) hlt
      obtain ⟨g', o', rfl, d0, d1⟩ := rd_nd (hl'.fr g1 fun _ _ => id) hlt
      clear hl hl'
      generalize l[k] = x at *
      obtain ⟨xs, xp⟩ := x
      simp only at c0 c1 d0 d1
      go_wp2
      go_quiet (fail)
      go_wp2
      go_roundw
      case rel => exact ⟨k + 1, by omega, by go_num, g1.drewN nq⟩
      case measure => simp [intOf]; omega
    · go_wp2
      go_ret
      exact ⟨rfl, g1⟩

/-- the nine cells of a configuration behind its address -/
def Nine (b : Nat) (C : Cm) (w : World) : Prop := w.cell? ⟨b, 0, none⟩ = some (.slice C.A1 C.l.length C.c1) ∧ w.cell? ⟨b, 1, none⟩ = some (.slice C.A2 C.js.length C.c2) ∧ w.cell? ⟨b, 2, none⟩ = some (.slice C.A3 C.sg.length C.c3) ∧ w.cell? ⟨b, 3, none⟩ = some (.slice C.A4 C.cr.length C.c4) ∧ w.cell? ⟨b, 4, none⟩ = some (.slice C.A5 C.rs.length C.c5) ∧ w.cell? ⟨b, 5, none⟩ = some (.int .i64 C.tm.age) ∧ w.cell? ⟨b, 6, none⟩ = some (.int .i64 C.tm.brake) ∧ w.cell? ⟨b, 7, none⟩ = some (.int .i64 C.tm.hold) ∧ w.cell? ⟨b, 8, none⟩ = some (.int .i64 C.tm.budget)
theorem nine_of {w : World} {b : Nat} {C : Cm} (h : Is w b 40 C.arr) : Nine b C w :=
  ⟨h.cell 0, h.cell 1, h.cell 2, h.cell 3, h.cell 4, h.cell 5, h.cell 6, h.cell 7, h.cell 8⟩

theorem Nds.lt {w0 : Nat} {l : List Nd} {w : World} {v : Value} (h : Nds w0 l w v) : ∀ k, v.ownBlock = some k → w0 ≤ k ∧ k < w.heap.size := by
  obtain ⟨A, c, rfl, o⟩ := h
  exact World.ownsRow.lt o
theorem Nms.lt {w0 : Nat} {l : List Int} {w : World} {v : Value} (h : Nms w0 l w v) : ∀ k, v.ownBlock = some k → w0 ≤ k ∧ k < w.heap.size := by
  obtain ⟨A, c, rfl, o⟩ := h
  exact World.ownsRow.lt o

theorem needs_len {C : Cm} (hs : Slim C) (r : Int) : (needs C r).length ≤ 2097152 := by
  unfold needs
  split
  · split
    · simp
    · rename_i q hq
      obtain ⟨a, b⟩ := hs q (List.mem_of_getElem? hq)
      have := List.length_filterMap_le (ask C.l) q.path
      rw [List.length_append]
      omega
  · simp
theorem crs_len {C : Cm} {w : World} (hC : C.Ok w) (r : Int) : (crs C r).length * 8 ≤ 140737488351232 := by
  unfold crs
  split
  · split
    · simp
    · rename_i q _
      have := crsT_le q.path C.cr C.cr.length
      have := hC.b4
      omega
  · simp
theorem own_mono {w : World} {b b' : Nat} {e : TypeId} {size : Nat} {v : Value} {n : Nat} {xs : List Value} (h : w.ownsRow b e size v n xs) (hb : b' ≤ b) : w.ownsRow b' e size v n xs := by
  refine ⟨h.1, ?_⟩
  rcases h.2 with k | ⟨g, cap, cur, hv, h0, r⟩
  · exact .inl k
  · exact .inr ⟨g, cap, cur, hv, Nat.le_trans hb h0, r⟩
/-- what stays as the law writes over the other rows -/
structure Rest (w0 : World) (zb : Nat) (arr : Array Value) (z2 z3 z5 : Nat) (N : List Nd) (X : List Int) (vb vd v9 : Value) (wr : World) : Prop where
  b : Nds z2 N wr vb
  d : Nds z3 N wr vd
  y : Nms z5 X wr v9
  c : Is wr zb 40 arr
  f : Fr (fun _ => False) w0 wr
theorem Rest.fr {w0 : World} {zb : Nat} {arr : Array Value} {z2 z3 z5 : Nat} {N : List Nd} {X : List Int} {vb vd v9 : Value} {wr w1 : World} {S : Nat → Prop} (h : Rest w0 zb arr z2 z3 z5 N X vb vd v9 wr) (f : Fr S wr w1) (hs : ∀ k, S k → w0.heap.size ≤ k ∧ k ≠ zb ∧ vb.ownBlock ≠ some k ∧ vd.ownBlock ≠ some k ∧ v9.ownBlock ≠ some k) : Rest w0 zb arr z2 z3 z5 N X vb vd v9 w1 := by
  obtain ⟨⟨A, c, rfl, o⟩, ⟨A', c', rfl, o'⟩, ⟨A2, c2, rfl, o2⟩, i, g⟩ := h
  refine ⟨⟨A, c, rfl, wide_fr o f fun k hk e => (hs k e).2.2.1 hk⟩, ⟨A', c', rfl, wide_fr o' f fun k hk e => (hs k e).2.2.2.1 hk⟩, ⟨A2, c2, rfl, wide_fr o2 f fun k hk e => (hs k e).2.2.2.2 hk⟩, i.fr f fun e => (hs _ e).2.1 rfl, ?_⟩
  exact g.trans (f.mono (S' := fun k => w0.heap.size ≤ k) fun k _ e => (hs k e).1) fun k hk e => by omega

set_option maxHeartbeats 8000000 in
set_option maxRecDepth 100000 in
theorem needs_walk {C : Cm} (r : Int) (w : World) (hC : C.Ok w) (hs : Slim C) : Calls Try.prog 4 #[C.val, .int .i64 r] w fun e w' => e = .returned (.bool true) ∧ Below w.heap.size w w' := by
  have KL := lives_any
  have f0 := (Fr.refl (fun _ => False) w).alloc (.cells C.arr 40)
  have ib := Is.new w 40 C.arr
  have KN := fun W (f : Fr (fun _ => False) w W) => needs_any r W (hC.fr f) hs
  have KR := fun W (f : Fr (fun _ => False) w W) => rneeds_any r W (hC.fr f) hs
  have KC := fun W (f : Fr (fun _ => False) w W) => crossings_any r W (hC.fr f)
  have KD := fun W (f : Fr (fun _ => False) w W) => rcrossings_any r W (hC.fr f)
  have HNL : Hid ((needs C r).length ≤ 2097152) := Lib.hid (needs_len hs r)
  have HCL : Hid ((crs C r).length * 8 ≤ 140737488351232) := Lib.hid (crs_len hC r)
  generalize needs C r = N at *
  generalize crs C r = X at *
  have HK := Lib.hid (show _ ∧ _ ∧ _ ∧ _ from ⟨KN, KR, KC, KD⟩)
  have HIB := Lib.hid ib
  have HF0 := Lib.hid f0
  clear hC hs KN KR KC KD ib f0
  unfold Cm.val at *
  unfold Cm.arr at *
  go_enter Try.func4, Try.ntmps4
  go_wp2_with fail
  generalize w.alloc _ = w0 at *
  refine (KL w0).mono ?_
  clear KL
  rintro e w1 ⟨rfl, f1⟩
  have ib := HIB.out.fr f1 id
  have HF1 := Lib.hid (fr_nil HF0.out f1)
  have HB := Lib.hid ib
  clear HF0 HIB f1 ib
  generalize hzb : w.heap.size = zb at *
  have HZ := Lib.hid hzb
  clear hzb
  go_upto_region 3 with fail
  go_cut [5, 6, 7] from 14 (fun v5 v6 v7 wx => ∃ z1 z2 z3, Nds z1 N wx v5 ∧ Nds z2 N wx v6 ∧ Nds z3 N wx v7 ∧ w.heap.size ≤ z1 ∧ (∀ k, v5.ownBlock = some k → k < z2 ∧ k < z3) ∧ (∀ k, v6.ownBlock = some k → k < z3) ∧ Fr (fun _ => False) w1 wx)
  case first =>
    have KN := HK.out.1
    have KR := HK.out.2.1
    have HB1 := Lib.hid (show Is w1.drew zb 40 _ from HB.out)
    have s0 := nine_of (C := C) HB1.out
    unfold Nine at s0
    have HG1 := Lib.hid (HF1.out.drew)
    have HG0 := Lib.hid ((Fr.refl (fun _ => False) w1).drew)
    go_region_held3 (fun Wx => Wx.cell? ⟨zb, 0, none⟩ = some (.slice C.A1 C.l.length C.c1) ∧ Wx.cell? ⟨zb, 1, none⟩ = some (.slice C.A2 C.js.length C.c2) ∧ Wx.cell? ⟨zb, 2, none⟩ = some (.slice C.A3 C.sg.length C.c3) ∧ Wx.cell? ⟨zb, 3, none⟩ = some (.slice C.A4 C.cr.length C.c4) ∧ Wx.cell? ⟨zb, 4, none⟩ = some (.slice C.A5 C.rs.length C.c5) ∧ Wx.cell? ⟨zb, 5, none⟩ = some (.int .i64 C.tm.age) ∧ Wx.cell? ⟨zb, 6, none⟩ = some (.int .i64 C.tm.brake) ∧ Wx.cell? ⟨zb, 7, none⟩ = some (.int .i64 C.tm.hold) ∧ Wx.cell? ⟨zb, 8, none⟩ = some (.int .i64 C.tm.budget)) (first | with_reducible exact s0 | with_reducible exact s1 | with_reducible exact s2 | with_reducible exact s3) (first | (go_at_call 14; (with_reducible refine (KR _ HG3.out).mono ?_); rintro e w4 ⟨v7, rfl, n7, f7⟩; have s3 := nine_of (C := C) ((HB3.out).fr f7 id); unfold Nine at s3; have HN7 := Lib.hid n7; have HN5c := Lib.hid (HN5b.out.fr f7); have HN6b := Lib.hid (HN6.out.fr f7); have HG4 := Lib.hid (fr_nil HG03.out f7); clear n7 f7) | (go_at_call 13; (with_reducible refine (KN _ HG2.out).mono ?_); rintro e w3 ⟨v6, rfl, n6, f6⟩; have HB3 := Lib.hid (HB2.out.fr f6 id); have s2 := nine_of (C := C) HB3.out; unfold Nine at s2; have HN6 := Lib.hid n6; have HN5b := Lib.hid (HN5.out.fr f6); have HG3 := Lib.hid (fr_nil HG2.out f6); have HG03 := Lib.hid (fr_nil HG02.out f6); clear n6 f6) | (go_at_call 13; (with_reducible refine (KN _ HG1.out).mono ?_); rintro e w2 ⟨v5, rfl, n5, f5⟩; have HB2 := Lib.hid (HB1.out.fr f5 id); have s1 := nine_of (C := C) HB2.out; unfold Nine at s1; have HN5 := Lib.hid n5; have HG2 := Lib.hid (fr_nil HG1.out f5); have HG02 := Lib.hid (fr_nil HG0.out f5); clear n5 f5))
    have HZ1 := Lib.hid HG1.out.size
    clear HB1 s0 HG1 HG0 HB2 s1 HG2 HG02 HB3 s2 HG3 HG03 s3 KN KR
    go_wp2_with fail
    go_meet
    exact ⟨_, _, _, HN5c.out, HN6b.out, HN7.out, HZ1.out, fun k h => ⟨(HN5.out.lt k h).2, (HN5b.out.lt k h).2⟩, fun k h => (HN6.out.lt k h).2, HG4.out⟩
  case rest =>
    obtain ⟨z1, z2, z3, n5, n6, n7, h0, h1, h2, g1⟩ := hcut
    have HN := Lib.hid (show _ ∧ _ ∧ _ from ⟨n5, n6, n7⟩)
    have HH := Lib.hid (show _ ∧ _ from ⟨h0, h1⟩)
    have HFC := Lib.hid (fr_nil HF1.out g1)
    have HBC := Lib.hid (HB.out.fr g1 id)
    clear n5 n6 n7 h0 h1 h2 g1 HF1 HB
    go_upto_region 4 with fail
    obtain ⟨w1, hw1⟩ : ∃ w1, w1 = wc := ⟨_, rfl⟩
    subst hw1
    obtain ⟨va, hva⟩ : ∃ va, va = u5 := ⟨_, rfl⟩
    subst hva
    obtain ⟨vb, hvb⟩ : ∃ vb, vb = u6 := ⟨_, rfl⟩
    subst hvb
    obtain ⟨vd, hvd⟩ : ∃ vd, vd = u7 := ⟨_, rfl⟩
    subst hvd
    go_cut [5, 6, 7, 8, 9] from 14 (fun s5 s6 s7 v8 v9 wx => s5 = va ∧ s6 = vb ∧ s7 = vd ∧ ∃ z1 z2, Nms z1 X wx v8 ∧ Nms z2 X wx v9 ∧ w1.heap.size ≤ z1 ∧ w1.heap.size ≤ z2 ∧ (∀ k, v8.ownBlock = some k → k < z2) ∧ Fr (fun _ => False) w1 wx)
    case first =>
      have KC := HK.out.2.2.1
      have HB1 := Lib.hid (show Is w1.drew zb 40 _ from HBC.out)
      have s0 := nine_of (C := C) HB1.out
      unfold Nine at s0
      have HG1 := Lib.hid (HFC.out.drew)
      have HG0 := Lib.hid ((Fr.refl (fun _ => False) w1).drew)
      go_region_held3 (fun Wx => Wx.cell? ⟨zb, 0, none⟩ = some (.slice C.A1 C.l.length C.c1) ∧ Wx.cell? ⟨zb, 1, none⟩ = some (.slice C.A2 C.js.length C.c2) ∧ Wx.cell? ⟨zb, 2, none⟩ = some (.slice C.A3 C.sg.length C.c3) ∧ Wx.cell? ⟨zb, 3, none⟩ = some (.slice C.A4 C.cr.length C.c4) ∧ Wx.cell? ⟨zb, 4, none⟩ = some (.slice C.A5 C.rs.length C.c5) ∧ Wx.cell? ⟨zb, 5, none⟩ = some (.int .i64 C.tm.age) ∧ Wx.cell? ⟨zb, 6, none⟩ = some (.int .i64 C.tm.brake) ∧ Wx.cell? ⟨zb, 7, none⟩ = some (.int .i64 C.tm.hold) ∧ Wx.cell? ⟨zb, 8, none⟩ = some (.int .i64 C.tm.budget)) (first | with_reducible exact s0 | with_reducible exact s1 | with_reducible exact s2) (first | (go_at_call 15; (with_reducible refine (KC _ HG2.out).mono ?_); rintro e w3 ⟨v9, rfl, n6, f6⟩; have HB3 := Lib.hid (HB2.out.fr f6 id); have s2 := nine_of (C := C) HB3.out; unfold Nine at s2; have HN6 := Lib.hid n6; have HN5b := Lib.hid (HN5.out.fr f6); have HG03 := Lib.hid (fr_nil HG02.out f6); clear n6 f6) | (go_at_call 15; (with_reducible refine (KC _ HG1.out).mono ?_); rintro e w2 ⟨v8, rfl, n5, f5⟩; have HB2 := Lib.hid (HB1.out.fr f5 id); have s1 := nine_of (C := C) HB2.out; unfold Nine at s1; have HN5 := Lib.hid n5; have HG2 := Lib.hid (fr_nil HG1.out f5); have HG02 := Lib.hid (fr_nil HG0.out f5); clear n5 f5))
      have HZ2 := Lib.hid HG02.out.size
      clear HB1 s0 HG1 HG0 HB2 s1 HG2 HG02 HB3 s2 KC
      go_wp2_with fail
      go_meet
      exact ⟨rfl, rfl, rfl, _, _, HN5b.out, HN6.out, Nat.le_refl _, HZ2.out, fun k h => (HN5.out.lt k h).2, HG03.out⟩
    case rest =>
      obtain ⟨rfl, rfl, rfl, z4, z5, m8, m9, h4, h45, h5, g2⟩ := hcut
      obtain ⟨nA, nB, nD⟩ := HN.out
      obtain ⟨hzz, hH⟩ := HH.out
      have hAl := nA.lt
      have hBl := nB.lt
      have hDl := nD.lt
      have h8 := m8.lt
      have h9 := m9.lt
      have hzb : zb < w1.heap.size := HBC.out.lt
      have hw1 : w.heap.size ≤ zb := by have := HZ.out; omega
      have hw2 := HFC.out.size
      have hz1 : ∀ k, u5.ownBlock = some k → k ≠ zb := by
        intro k hk e
        obtain ⟨A, c, rfl, o⟩ := nA
        exact wide_is_ne o HBC.out (by decide) (by rw [hk, e])
      have HSA : Hid (∀ k, u5.ownBlock = some k → w.heap.size ≤ k ∧ k ≠ zb ∧ u6.ownBlock ≠ some k ∧ u7.ownBlock ≠ some k ∧ u9.ownBlock ≠ some k) := Lib.hid fun k hk => ⟨by have := (hAl k hk).1; omega, hz1 k hk, fun e => by have := (hBl k e).1; have := hH k hk; omega, fun e => by have := (hDl k e).1; have := hH k hk; omega, fun e => by have := (h9 k e).1; have := (hAl k hk).2; omega⟩
      have HSX : Hid (∀ k, u8.ownBlock = some k → w.heap.size ≤ k ∧ k ≠ zb ∧ u6.ownBlock ≠ some k ∧ u7.ownBlock ≠ some k ∧ u9.ownBlock ≠ some k) := Lib.hid fun k hk => ⟨by have := (h8 k hk).1; omega, by have := (h8 k hk).1; omega, fun e => by have := (hBl k e).2; have := (h8 k hk).1; omega, fun e => by have := (hDl k e).2; have := (h8 k hk).1; omega, fun e => by have := (h9 k e).1; have := h5 k hk; omega⟩
      have HAX : Hid (∀ k, u5.ownBlock = some k → u8.ownBlock ≠ some k) := Lib.hid fun k hk e => by have := (h8 k e).1; have := (hAl k hk).2; omega
      have HR : Rest w zb _ z2 z3 z5 N X u6 u7 u9 wc := ⟨nB.fr g2, nD.fr g2, m9, HBC.out.fr g2 id, fr_nil HFC.out g2⟩
      obtain ⟨A, c, rfl, hA⟩ := nA.fr g2
      obtain ⟨A8, c8, rfl, h8'⟩ := m8
      have hA0 := own_mono hA (show w.heap.size ≤ z1 from hzz)
      have h80 := own_mono h8' (show w.heap.size ≤ z4 by omega)
      clear nA nB nD hzz hH hAl hBl hDl h8 h9 hzb hw1 hw2 hz1 h4 h45 h5 m9 g2 HN HH hA h8'
      have HC5 := Lib.hid HCL.out
      go_wp2_with fail
      have hN2 := HNL.out
      go_loopg [10, 31] N.length (fun gi v10 i wr => ∃ (k : Nat) (xs : List Value), k ≤ N.length ∧ gi = N.length - k ∧ i = .int .i64 (k : Nat) ∧ wr.ownsRow w.heap.size 45 2 (.slice A N.length c) N.length xs ∧ wr.ownsRow w.heap.size 3 1 (.slice A8 X.length c8) X.length (X.map (Value.int .i64)) ∧ Rest w zb #[.slice C.A1 C.l.length C.c1, .slice C.A2 C.js.length C.c2, .slice C.A3 C.sg.length C.c3, .slice C.A4 C.cr.length C.c4, .slice C.A5 C.rs.length C.c5, .int .i64 C.tm.age, .int .i64 C.tm.brake, .int .i64 C.tm.hold, .int .i64 C.tm.budget] z2 z3 z5 N X u6 u7 u9 wr)
      case atStart => exact ⟨0, _, Nat.zero_le _, rfl, rfl, hA0, h80, HR⟩
      case round =>
        clear hA0 h80 HR
        obtain ⟨k, xs, hk, rfl, rfl, hA, h8, R⟩ := hrel
        by_cases hlt : k < N.length
        · obtain ⟨_, _, e, hcap, hmx, hb, _⟩ := wide_form hA
          injection e with e1 _ e2
          subst e1 e2
          obtain ⟨g, rfl, hgl⟩ := hb (by omega)
          have hxl := hA.1
          have c0 := hA.cellAt (k * 2) (by omega)
          have c1 := hA.cellAt (k * 2 + 1) (by omega)
          rw [List.getElem?_eq_getElem (by omega)] at c0 c1
          generalize xs[k * 2]'_ = y0 at c0
          generalize xs[k * 2 + 1]'_ = y1 at c1
          have z0 := hA.frozenAt (k * 2)
          have z1' := hA.frozenAt (k * 2 + 1)
          have hA2 := ((hA.stored (k * 2) (.int .i64 (-9))).1.stored (k * 2 + 1) (.int .i64 0)).1
          have ff : Fr (fun q => q = g) wr ((wr.setCell ⟨g, k * 2, none⟩ (.int .i64 (-9))).setCell ⟨g, k * 2 + 1, none⟩ (.int .i64 0)) := ((Fr.refl (fun q => q = g) wr).setCell (p := ⟨g, k * 2, none⟩) (.inl rfl) _).setCell (p := ⟨g, k * 2 + 1, none⟩) (.inl rfl) _
          have R2 := R.fr ff fun q hq => by subst hq; exact HSA.out _ rfl
          have h82 := wide_fr h8 ff fun q hq e => HAX.out g rfl (by rw [← e]; exact hq)
          have HA2 := Lib.hid hA2
          have HR2 := Lib.hid R2
          have H82 := Lib.hid h82
          clear hA h8 R hxl hA2 ff R2 h82 hgl hb
          go_wp2_with fail
          go_roundg (N.length - (k + 1))
          case measure => omega
          case rel => exact ⟨k + 1, _, by omega, rfl, by go_num, HA2.out, H82.out, HR2.out⟩
        · obtain ⟨i0, hi0, hz0, hz1, hz2⟩ := info_parts Try.infoNd
          have fb := (Fr.refl (fun _ => False) wr).alloc (.cells #[.int .i64 0, .int .i64 0] 45)
          have hrs := R.f.size
          have hbs := fb.size
          go_wp2_with (at_builtin; refine wpList_append_wide _ rfl (.tmp 39) (.tmp 41) 41 rfl w.heap.size 45 i0 _ 2 16 Try.underlying41 hi0 hz0 hz1 hz2 rfl (by decide) (.slice A N.length c) N.length xs rfl (hA.alloc _) (some ⟨wr.heap.size, 0, none⟩) 1 1 [.int .i64 0, .int .i64 0] rfl rfl (lit_rd wr _ _) (by simp [Value.oneCell']) (by unfold maxLen; omega) (by omega) (by omega) ?_)
          intro v5 w5 hown5 hg5 _
          have ff : Fr (fun q => (Value.slice A N.length c).ownBlock = some q) wr w5 := (fb.mono fun _ _ h => h.elim).trans ((Fr.refl (fun q => (Value.slice A N.length c).ownBlock = some q) _).grown hg5 fun _ hq => .inl hq) fun _ _ h => h
          have R5 := R.fr ff fun q hq => HSA.out q hq
          have h85 := wide_fr h8 ff fun q hq e => HAX.out q e hq
          obtain ⟨A5, c5, rfl, _, _, _, _⟩ := wide_form hown5
          have hX8 := Lib.hid (wide_form h85)
          clear hA h8 R fb hrs hbs hown5 hg5 ff hi0 hz0 hz1 hz2 HAX HSA
          go_wp2_with fail
          go_loopg [11, 45] X.length (fun gi v11 i wr => ∃ (k : Nat) (xs : List Value), k ≤ X.length ∧ gi = X.length - k ∧ i = .int .i64 (k : Nat) ∧ wr.ownsRow w.heap.size 3 1 (.slice A8 X.length c8) X.length xs ∧ Rest w zb #[.slice C.A1 C.l.length C.c1, .slice C.A2 C.js.length C.c2, .slice C.A3 C.sg.length C.c3, .slice C.A4 C.cr.length C.c4, .slice C.A5 C.rs.length C.c5, .int .i64 C.tm.age, .int .i64 C.tm.brake, .int .i64 C.tm.hold, .int .i64 C.tm.budget] z2 z3 z5 N X u6 u7 u9 wr)
          case atStart => exact ⟨0, _, Nat.zero_le _, rfl, rfl, h85, R5⟩
          case round =>
            clear h85 R5
            obtain ⟨k, xs, hk, rfl, rfl, h8, R⟩ := hrel
            have hC2 := HC5.out
            by_cases hlt : k < X.length
            · obtain ⟨_, _, e, hcap, hmx, hb, _⟩ := wide_form h8
              injection e with e1 _ e2
              subst e1 e2
              obtain ⟨g, rfl, hgl⟩ := hb (by omega)
              have hxl := h8.1
              have c0 := h8.cellAt k (by omega)
              rw [List.getElem?_eq_getElem (by omega)] at c0
              generalize xs[k]'_ = y0 at c0
              have z0 := h8.frozenAt k
              have h82 := (h8.stored k (.int .i64 (-9))).1
              have ff : Fr (fun q => q = g) wr (wr.setCell ⟨g, k, none⟩ (.int .i64 (-9))) := (Fr.refl (fun q => q = g) wr).setCell (p := ⟨g, k, none⟩) (.inl rfl) _
              have R2 := R.fr ff fun q hq => by subst hq; exact HSX.out _ rfl
              have HR2 := Lib.hid R2
              have H82 := Lib.hid h82
              clear h8 R hxl ff R2 h82 hgl hb
              go_wp2_with fail
              go_roundg (X.length - (k + 1))
              case measure => omega
              case rel => exact ⟨k + 1, _, by omega, rfl, by go_num, H82.out, HR2.out⟩
            · clear h8
              obtain ⟨⟨Ab, cb, rfl, ob⟩, ⟨Ad, cd, rfl, od⟩, ⟨Ay, cy, rfl, oy⟩, ic, f⟩ := R
              have KS := sameneeds_any (c := cb) (c' := cd) (wide_rd ob) (wide_rd od) (by omega)
              have b := Lib.hid ic
              have KD := HK.out.2.2.2
              go_wp2_with fail
              refine KS.mono ?_
              clear KS
              rintro e w7 ⟨rfl, f7⟩
              have s0 := nine_of (C := C) (b.out.fr f7 id)
              unfold Nine at s0
              obtain ⟨k0, k1, k2, k3, k4, k5, k6, k7, k8⟩ := s0
              have f8 := fr_nil f f7
              have oy7 := wide_fr oy f7 fun _ _ => id
              have KX := KD w7 f8
              clear b ob od oy f f7 ic KD
              go_wp2_with fail
              refine KX.mono ?_
              clear KX k0 k1 k2 k3 k4 k5 k6 k7 k8
              rintro e w9 ⟨v9, rfl, ⟨A9, c9, rfl, o9⟩, f9⟩
              have KZ := sameints_any (c := cy) (c' := c9) (wide_rd (wide_fr oy7 f9 fun _ _ => id)) (wide_rd o9) (by omega)
              have f10 := fr_nil f8 f9
              clear o9 f8 f9 oy7
              go_wp2_with fail
              refine KZ.mono ?_
              clear KZ
              rintro e w10 ⟨rfl, f11⟩
              have f12 := fr_nil f10 f11
              clear f10 f11
              go_wp2_with fail
              go_ret
              exact ⟨rfl, f12.toBelow0⟩
theorem slim_of {C : Cm} (h : C.total ≤ 1048576) : Slim C := fun r hr => by
  have a := totalR_mem C.rs r hr
  have b : r.total = 1 + r.path.length + r.flank.length + r.over.length := rfl
  have c : C.total = C.l.length + C.js.length + C.sg.length + C.cr.length + totalR C.rs := rfl
  exact ⟨by omega, by omega⟩
end Go.Proofs.Ytbjbkaphigolnaa.Mv

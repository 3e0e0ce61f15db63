/- The contracts of ReadStatus and ReadOrders. -/
import Derived.Test.YtmohefkingnknaaTrplain
namespace Go.Proofs.Ytmohefkingnknaa.Te
open Go.RowKit Go.Proofs.Ytmohefkingnknaa.Pa

theorem nil_ok (w : World) : (L3.mk none [] 0).Ok w := ⟨fun h => by simp at h, by simp, fun _ k hk => by cases hk⟩
theorem nilSta_ok (w : World) : nilSta.Ok w := ⟨nil_ok w, nil_ok w, nil_ok w, nil_ok w⟩
theorem nilOds_ok (w : World) : nilOds.Ok w := ⟨nil_ok w, nil_ok w, nil_ok w⟩

theorem gots_st {T : List UInt8} {z b : Nat} {w : World} {h : Hs} {x0 x1 x2 x3 : L3} (hgs : Gots T z w (stPs h b nilSta) [x0, x1, x2, x3]) :
    (x0.Ok w ∧ x0.l = cutL T 1 h.s ∧ ∀ q, blk x0.A = some q → z ≤ q) ∧ (x1.Ok w ∧ x1.l = cutL T (1 + h.s) h.p ∧ ∀ q, blk x1.A = some q → z ≤ q) ∧ (x2.Ok w ∧ x2.l = cutL T (1 + h.s + h.p) h.c ∧ ∀ q, blk x2.A = some q → z ≤ q) ∧ x3.Ok w ∧ x3.l = cutL T (1 + h.s + h.p + h.c) h.g ∧ ∀ q, blk x3.A = some q → z ≤ q := by
  have G0 := hgs 0 (by simp) (by simp [stPs])
  have G1 := hgs 1 (by simp) (by simp [stPs])
  have G2 := hgs 2 (by simp) (by simp [stPs])
  have G3 := hgs 3 (by simp) (by simp [stPs])
  exact ⟨⟨G0.ok, G0.l, G0.new⟩, ⟨G1.ok, G1.l, G1.new⟩, ⟨G2.ok, G2.l, G2.new⟩, G3.ok, G3.l, G3.new⟩
set_option maxHeartbeats 1000000 in
theorem rstatus_any {h : Sh} (hh : h.Ok) (s : ByteArray) (w : World) :
    Calls Try.prog 15 #[h.val, .string s] w fun e w' => ∃ x : Sta, e = .returned (.tuple #[x.val, .int .i64 (rstL h.hs (bytesOf s)).2]) ∧ x.st = (rstL h.hs (bytesOf s)).1 ∧ x.Ok w' ∧ Fr (fun _ => False) w w' := by
  have KS := fun b W => sparts_any h b W
  have KR := fun (W : World) (g b : Nat) (hr : Rd W (some ⟨g, 0, none⟩) (cellsP (stPs h.hs b nilSta))) (cs : Array Value) (hb : Is W b 26 cs) (hcs : cs.size = 4) (hne : g ≠ b) =>
    read_any (c := 4) (tt := 26) W s 1 (by decide) hr (ps := stPs h.hs b nilSta) (b := b) (fun j hj => by
      have hj4 : j < 4 := hj
      match j, hj4 with
      | 0, _ => exact ⟨rfl, rfl⟩
      | 1, _ => exact ⟨rfl, rfl⟩
      | 2, _ => exact ⟨rfl, rfl⟩
      | 3, _ => exact ⟨rfl, rfl⟩) (fun p hp => by
      simp only [stPs, List.mem_cons, List.not_mem_nil, or_false] at hp
      rcases hp with rfl | rfl | rfl | rfl
      · exact hh.s
      · exact hh.p
      · exact hh.c
      · exact hh.g) (by simp [stPs]) hb hcs (by intro e; apply hne; injection e)
  rw [show UInt8.ofNat 1 = 1 from rfl] at KR
  have HRR := Lib.hid (fun b => rst_read h.hs b nilSta (bytesOf s))
  generalize rstL h.hs (bytesOf s) = RR at *
  generalize bytesOf s = T at *
  clear hh
  have fa := (Fr.refl (fun _ => False) w).alloc (.cells h.cells.toArray 24)
  have fb := fa.alloc (.cells #[.slice none 0 0, .slice none 0 0, .slice none 0 0, .slice none 0 0] 26)
  have fc := fb.alloc (.cells #[.slice none 0 0, .slice none 0 0, .slice none 0 0, .slice none 0 0] 26)
  have i1 := (Is.new (w.alloc (.cells h.cells.toArray 24)) 26 #[.slice none 0 0, .slice none 0 0, .slice none 0 0, .slice none 0 0]).alloc (.cells #[.slice none 0 0, .slice none 0 0, .slice none 0 0, .slice none 0 0] 26)
  have i2 := Is.new ((w.alloc (.cells h.cells.toArray 24)).alloc (.cells #[.slice none 0 0, .slice none 0 0, .slice none 0 0, .slice none 0 0] 26)) 26 #[.slice none 0 0, .slice none 0 0, .slice none 0 0, .slice none 0 0]
  simp only [World.size_alloc] at i1 i2
  have HFC := Lib.hid fc
  have I1 := Lib.hid i1
  have I2 := Lib.hid i2
  clear fa fb fc i1 i2
  unfold Sh.cells at *
  unfold Sh.val at *
  go_enter Try.func15, Try.ntmps15
  go_wp2_with fail
  generalize ((w.alloc (.cells #[.slice h.s.A h.s.n h.s.c, .slice h.p.A h.p.n h.p.c, .slice h.c.A h.c.n h.c.c, .slice h.g.A h.g.n h.g.c] 24)).alloc (.cells #[.slice none 0 0, .slice none 0 0, .slice none 0 0, .slice none 0 0] 26)).alloc (.cells #[.slice none 0 0, .slice none 0 0, .slice none 0 0, .slice none 0 0] 26) = w3 at *
  refine (KS _ _).mono ?_
  rintro e w4 ⟨g, rfl, f4, hg3, r4⟩
  have hg4 : w.heap.size + 2 ≠ g := by
    have := I2.out.lt
    omega
  have KR4 := KR w4 g (w.heap.size + 2) r4 _ (I2.out.fr f4 id) rfl (fun e => hg4 e.symm)
  have HI1 := Lib.hid (I1.out.fr f4 id)
  have hf4 := fr_nil HFC.out f4
  have HF4 := Lib.hid hf4
  have hsz4 : w.heap.size + 2 < w4.heap.size := (I2.out.fr f4 id).lt
  have HRR4 := Lib.hid (HRR.out (w.heap.size + 2))
  clear KS KR r4 hf4 f4 I1 I2 HFC HRR hg3 hg4
  simp only [show ((1 : Nat) : Int) = 1 from rfl] at KR4
  generalize readB 1 (stPs h.hs (w.heap.size + 2) nilSta) T = RB at *
  go_wp2_with fail
  refine KR4.mono ?_
  rintro e w5 ⟨rfl, f5, cs', xs, hcs, i5, hx⟩
  have j5 := HI1.out.fr f5 (by omega)
  have g5 : Fr (fun _ => False) w w5 := HF4.out.trans f5 (fun j hj e => by omega)
  have z0 := j5.frozen 0
  have z1 := j5.frozen 1
  have z2 := j5.frozen 2
  have z3 := j5.frozen 3
  have n0 := four_cells j5
  clear KR4 HI1 f5
  cases RB with
  | false =>
    have hR : RR = (St.nil, 3) := HRR4.out
    have HR := Lib.hid hR
    clear hR hx i5 HRR4
    go_wp2_with fail
    have i7 := (((j5.set 0 (.slice none 0 0)).set 1 (.slice none 0 0)).set 2 (.slice none 0 0)).set 3 (.slice none 0 0)
    have f7 := (((g5.setCell (p := ⟨w.heap.size + 1, 0, none⟩) (.inr (Nat.le_succ _)) (.slice none 0 0)).setCell (p := ⟨w.heap.size + 1, 1, none⟩) (.inr (Nat.le_succ _)) (.slice none 0 0)).setCell (p := ⟨w.heap.size + 1, 2, none⟩) (.inr (Nat.le_succ _)) (.slice none 0 0)).setCell (p := ⟨w.heap.size + 1, 3, none⟩) (.inr (Nat.le_succ _)) (.slice none 0 0)
    clear n0 z0 z1 z2 z3 j5 g5
    generalize (((w5.setCell ⟨w.heap.size + 1, 0, none⟩ (.slice none 0 0)).setCell ⟨w.heap.size + 1, 1, none⟩ (.slice none 0 0)).setCell ⟨w.heap.size + 1, 2, none⟩ (.slice none 0 0)).setCell ⟨w.heap.size + 1, 3, none⟩ (.slice none 0 0) = W at *
    obtain ⟨m0, m1, m2, m3⟩ := four_cells i7
    refine bodyPost_ret (v := .tuple #[.agg #[.slice none 0 0, .slice none 0 0, .slice none 0 0, .slice none 0 0], .int .i64 3]) (by simp [results, Try.results15, go_sem, m0, m1, m2, m3]) rfl ⟨nilSta, ?_, ?_, nilSta_ok _, f7⟩
    · rw [HR.out]; rfl
    · rw [HR.out]; rfl
  | true =>
    obtain ⟨hxl, hat, hgs⟩ := hx rfl
    have hR : RR = (St.cut h.hs T, 0) := HRR4.out
    have HR := Lib.hid hR
    match xs, hxl with
    | [⟨A0, l0, c0⟩, ⟨A1, l1, c1⟩, ⟨A2, l2, c2⟩, ⟨A3, l3, c3⟩], _ =>
    have k0 : w5.cell? ⟨w.heap.size + 2, 0, none⟩ = some (.slice A0 l0.length c0) := (i5.cell 0).trans (hat 0 (by simp))
    have k1 : w5.cell? ⟨w.heap.size + 2, 1, none⟩ = some (.slice A1 l1.length c1) := (i5.cell 1).trans (hat 1 (by simp))
    have k2 : w5.cell? ⟨w.heap.size + 2, 2, none⟩ = some (.slice A2 l2.length c2) := (i5.cell 2).trans (hat 2 (by simp))
    have k3 : w5.cell? ⟨w.heap.size + 2, 3, none⟩ = some (.slice A3 l3.length c3) := (i5.cell 3).trans (hat 3 (by simp))
    obtain ⟨⟨o0, e0, b0⟩, ⟨o1, e1, b1⟩, ⟨o2, e2, b2⟩, ⟨o3, e3, b3⟩⟩ := gots_st hgs
    have hok : Sta.Ok w5 ⟨⟨A0, l0, c0⟩, ⟨A1, l1, c1⟩, ⟨A2, l2, c2⟩, ⟨A3, l3, c3⟩⟩ := ⟨o0, o1, o2, o3⟩
    have hst : (Sta.mk ⟨A0, l0, c0⟩ ⟨A1, l1, c1⟩ ⟨A2, l2, c2⟩ ⟨A3, l3, c3⟩).st = St.cut h.hs T := by
      unfold Sta.st St.cut
      rw [e0, e1, e2, e3]
    have HST := Lib.hid hst
    have hf8 : ∀ (W : World), Fr (fun k => k = w.heap.size + 1) w5 W → Sta.Ok W ⟨⟨A0, l0, c0⟩, ⟨A1, l1, c1⟩, ⟨A2, l2, c2⟩, ⟨A3, l3, c3⟩⟩ := fun W F => by
      exact ⟨o0.fr F fun q hq e => by have := b0 q hq; omega, o1.fr F fun q hq e => by have := b1 q hq; omega, o2.fr F fun q hq e => by have := b2 q hq; omega, o3.fr F fun q hq e => by have := b3 q hq; omega⟩
    have HF8 := Lib.hid hf8
    have HSZ := Lib.hid hsz4
    clear hf8 hst hok o0 e0 b0 o1 e1 b1 o2 e2 b2 o3 e3 b3 hat hgs hR HRR4 hx hcs i5 hsz4
    go_wp2_with fail
    have f58 := ((((Fr.refl (fun k => k = w.heap.size + 1) w5).setCell (p := ⟨w.heap.size + 1, 0, none⟩) (.inl rfl) (.slice A0 l0.length c0)).setCell (p := ⟨w.heap.size + 1, 1, none⟩) (.inl rfl) (.slice A1 l1.length c1)).setCell (p := ⟨w.heap.size + 1, 2, none⟩) (.inl rfl) (.slice A2 l2.length c2)).setCell (p := ⟨w.heap.size + 1, 3, none⟩) (.inl rfl) (.slice A3 l3.length c3)
    have i7 := (((j5.set 0 (.slice A0 l0.length c0)).set 1 (.slice A1 l1.length c1)).set 2 (.slice A2 l2.length c2)).set 3 (.slice A3 l3.length c3)
    clear n0 z0 z1 z2 z3 j5 k0 k1 k2 k3
    generalize (((w5.setCell ⟨w.heap.size + 1, 0, none⟩ (.slice A0 l0.length c0)).setCell ⟨w.heap.size + 1, 1, none⟩ (.slice A1 l1.length c1)).setCell ⟨w.heap.size + 1, 2, none⟩ (.slice A2 l2.length c2)).setCell ⟨w.heap.size + 1, 3, none⟩ (.slice A3 l3.length c3) = W at *
    obtain ⟨m0, m1, m2, m3⟩ := four_cells i7
    refine bodyPost_ret (v := .tuple #[.agg #[.slice A0 l0.length c0, .slice A1 l1.length c1, .slice A2 l2.length c2, .slice A3 l3.length c3], .int .i64 0]) (by simp [results, Try.results15, go_sem, m0, m1, m2, m3]) rfl ⟨⟨⟨A0, l0, c0⟩, ⟨A1, l1, c1⟩, ⟨A2, l2, c2⟩, ⟨A3, l3, c3⟩⟩, ?_, ?_, HF8.out _ f58, g5.trans f58 (fun j hj e => by omega)⟩
    · rw [HR.out]; rfl
    · rw [HR.out]; exact HST.out
end Go.Proofs.Ytmohefkingnknaa.Te

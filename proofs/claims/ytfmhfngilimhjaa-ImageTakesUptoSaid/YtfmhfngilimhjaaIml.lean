/- The laws' first line. -/
import Derived.Test.YtfmhfngilimhjaaImp
namespace Go.Proofs.Ytfmhfngilimhjaa.Im
open Go.RowKit Li

theorem new_fit {C : Te.Cf} {ks : List Kc} (hm : ∀ j (h : j < ks.length), ks[j].m = ⟨R.new (j : Nat) C.t.age, Te.nilSta.st, -1⟩ ∧ ks[j].h.st = Te.shL C (j : Nat)) : ∀ j (hj : j < ks.length), Fit C j ks[j] := fun j hj => by
  have e : ks[j].z = -1 := congrArg Km.z (hm j hj).1
  exact ⟨(hm j hj).2, by omega, fun c => absurd e c⟩
theorem list_one {α : Type} {l : List α} {x : α} (h : l.length = 1) (k : l[0]? = some x) : l = [x] := by
  match l, h with
  | [y], _ =>
    simp at k
    rw [k]
/-- the example's station -/
def C0 (a : Nat) : Te.Cf := ⟨some ⟨a, 0, none⟩, 1, [⟨0, 0, 0⟩], none, 0, 0, none, 0, [], none, 0, [], none, 0, 0, ⟨2, 0, 0, 0⟩⟩
theorem c0_ok (w : World) : (C0 w.heap.size).Ok (w.alloc (.cells #[.int .i64 0, .int .i64 0, .int .i64 0] 38)) := by
  have i := Is.new w 38 #[.int .i64 0, .int .i64 0, .int .i64 0]
  refine ⟨fun _ => ⟨w.heap.size, 0, rfl, i.lt, fun j u hu => ?_⟩, fun h => absurd h (Nat.lt_irrefl 0), fun h => absurd h (Nat.lt_irrefl 0), by show (1 : Nat) ≤ _; decide, by show (0 : Nat) ≤ _; decide, by show (0 : Nat) ≤ _; decide⟩
  rw [Nat.zero_add, i.cell]
  rw [← hu, ← List.getElem?_toArray]
  rfl
theorem hear_first : (Km.mk (R.new 0 2) Te.nilSta.st (-1)).hear ⟨1, 0, 0, 0⟩ 5 ⟨0, 1, 5, [1, 0], 0⟩ = (⟨⟨true, 1, 0, 0, 2, 5⟩, ⟨[0], [], [], []⟩, 5⟩, 0) := by rfl
theorem sh_first (a : Nat) : (Te.shL (C0 a) 0).hs = ⟨1, 0, 0, 0⟩ := by rfl
theorem make_first : (makeL 0 1 5 [1, 0]).2 = 0 := by rfl
theorem read_first : readL (makeL 0 1 5 [1, 0]).1 = ⟨0, 1, 5, [1, 0], 0⟩ := read_make make_first
set_option maxHeartbeats 4000000 in
set_option maxRecDepth 100000 in
theorem lives_any (w : World) : Calls Try.prog 12 #[] w fun e w' => e = .returned (.bool true) ∧ Fr (fun _ => False) w w' := by
  have KN := new_any (c0_ok w)
  have KM := fun W => rmake_any 0 1 5 ⟨#[1, 0]⟩ W
  rw [show bytesOf ⟨#[1, 0]⟩ = [1, 0] from rfl, make_first] at KM
  have hrd := read_first
  generalize (makeL 0 1 5 [1, 0]).1 = tl at *
  have HRD := Lib.hid hrd
  have F0 := Lib.hid ((Fr.refl (fun _ => False) w).alloc (.cells #[.int .i64 0, .int .i64 0, .int .i64 0] 38))
  clear hrd
  unfold Te.Cf.val Te.Cf.cells at KN
  have hC : Small (C0 w.heap.size) := ⟨by show (1 : Nat) ≤ _; decide, by show (0 : Nat) ≤ _; decide, by show (0 : Nat) ≤ _; decide⟩
  simp only [show (C0 w.heap.size).A1 = some ⟨w.heap.size, 0, none⟩ from rfl, show (C0 w.heap.size).l.length = 1 from rfl, show (C0 w.heap.size).c1 = 1 from rfl, show (C0 w.heap.size).A2 = none from rfl, show (C0 w.heap.size).n2 = 0 from rfl, show (C0 w.heap.size).c2 = 0 from rfl, show (C0 w.heap.size).A3 = none from rfl, show (C0 w.heap.size).sg.length = 0 from rfl, show (C0 w.heap.size).c3 = 0 from rfl, show (C0 w.heap.size).A4 = none from rfl, show (C0 w.heap.size).cr.length = 0 from rfl, show (C0 w.heap.size).c4 = 0 from rfl, show (C0 w.heap.size).A5 = none from rfl, show (C0 w.heap.size).n5 = 0 from rfl, show (C0 w.heap.size).c5 = 0 from rfl, show (C0 w.heap.size).t = ⟨2, 0, 0, 0⟩ from rfl] at KN
  go_enter Try.func12, Try.ntmps12
  go_wp2_with fail
  refine KN.mono ?_
  rintro e w1 ⟨b, ks, rfl, him, h4, hm, hfo, _, f1⟩
  have HFO : Hid (∀ q, Foot b ks q → w.heap.size ≤ q) := Lib.hid fun q hq => by
    have := hfo q hq
    simp at this
    omega
  clear hfo
  have hm0 : ∀ j (h : j < ks.length), ks[j].m = ⟨R.new (j : Nat) (C0 w.heap.size).t.age, Te.nilSta.st, -1⟩ ∧ ks[j].h.st = Te.shL (C0 w.heap.size) (j : Nat) := hm
  have hft := new_fit hm0
  have HIM := Lib.hid him
  have HM := Lib.hid hm0
  have HFT := Lib.hid hft
  have F1 := Lib.hid (fr_nil F0.out f1)
  have h0 : 0 < ks.length := by omega
  clear KN him hm hm0 hft f1 F0
  go_wp2_with fail
  refine (KM _).mono ?_
  rintro e w2 ⟨rfl, f2⟩
  have KT := take_in (HIM.out.fr0 f2) h4 h0 5 ⟨tl.toArray⟩ (by decide) (by have := (HM.out 0 h0).1; rw [show ks[0].r = (Kc.m ks[0]).r from rfl, this]; show (0 : Int) ≤ 0; decide) (by have := (HM.out 0 h0).1; rw [show ks[0].r = (Kc.m ks[0]).r from rfl, this]; show (0 : Int) ≤ 4611686018427387904; decide)
  rw [(HM.out 0 h0).1, (HM.out 0 h0).2, show bytesOf ⟨tl.toArray⟩ = tl from rfl, HRD.out, show Te.shL (C0 w.heap.size) ((0 : Nat) : Int) = Te.shL (C0 w.heap.size) 0 from rfl, sh_first, show (C0 w.heap.size).t.age = 2 from rfl, show ((0 : Nat) : Int) = 0 from rfl, hear_first] at KT
  simp only at KT
  have F2 := Lib.hid (fr_nil F1.out f2)
  clear KM f2 F1
  go_wp2_with fail
  refine KT.mono ?_
  rintro e w3 ⟨k, rfl, hkm, hkh, hkr, him3, f3⟩
  have hl3 : (ks.set 0 k).length = 4 := by rw [List.length_set]; exact h4
  have hft3 : ∀ j (hj : j < (ks.set 0 k).length), Fit (C0 w.heap.size) j (ks.set 0 k)[j] := fun j hj => by
    have hj' : j < ks.length := by rw [List.length_set] at hj; exact hj
    have hz : k.z = 5 := congrArg Km.z hkm
    have hs : k.s.st = ⟨[0], [], [], []⟩ := congrArg Km.s hkm
    by_cases e : j = 0
    · subst e
      rw [List.getElem_set_self]
      refine ⟨by rw [hkh]; exact (HM.out 0 h0).2, by omega, fun _ => ?_⟩
      rw [hs, hkh, (HM.out 0 h0).2]
      rfl
    · rw [List.getElem_set_ne (by omega)]
      exact HFT.out j hj'
  have h03 : 0 < (ks.set 0 k).length := by omega
  have hg0 : (ks.set 0 k)[0] = k := List.getElem_set_self _
  have hk5 : k.z = 5 := congrArg Km.z hkm
  have hks : k.s.occ.l = [0] := congrArg Te.St.occ (congrArg Km.s hkm)
  have hkhl : k.h.occ.l = [0] := by rw [hkh]; exact congrArg Te.St.occ (HM.out 0 h0).2
  have hf7 : k.m.fresh 7 2 = true := by rw [hkm]; rfl
  have hf8 : k.m.fresh 8 2 = false := by rw [hkm]; rfl
  have v7 : vOcc (C0 w.heap.size) 7 (ks.set 0 k) = [⟨0, 5, true⟩] := by
    refine list_one (by rw [vOcc, viewK_length, worstL_length]; rfl) ?_
    rw [occ_told hft3 7 (i := 0) (j := 0) (p := 0) (by show 0 < 1; decide) h03 (by rw [hg0]; exact hf7) (by rw [hg0, hkhl]; decide) (by rw [hg0, hks]; decide) (by simp only [hg0, hkhl]; rfl)]
    simp only [hg0, hks, hk5]
    rfl
  have v8 : vOcc (C0 w.heap.size) 8 (ks.set 0 k) = [⟨1, -1, false⟩] := by
    refine list_one (by rw [vOcc, viewK_length, worstL_length]; rfl) ?_
    refine occ_silent hft3 8 (i := 0) (by show 0 < 1; decide) fun j hj he => ?_
    have hj0 : j = 0 := by
      have he2 : (0 : Int) = (j : Int) := he
      omega
    subst hj0
    rw [hg0]
    exact hf8
  have K7 := view_any him3 hl3 hC hft3 7 (by decide)
  have K8 := fun (W : World) (f : Fr (fun _ => False) w3 W) => view_any (him3.fr0 f) hl3 hC hft3 8 (by decide)
  have A7 := fun (W : World) (f : Fr (fun _ => False) w3 W) => alive_in (him3.fr0 f) hl3 h03 (by rw [hg0, hk5]; decide) 7 (by decide)
  have A8 := fun (W : World) (f : Fr (fun _ => False) w3 W) => alive_in (him3.fr0 f) hl3 h03 (by rw [hg0, hk5]; decide) 8 (by decide)
  simp only [hg0, show (C0 w.heap.size).t.age = 2 from rfl, hf7, hf8, show ((0 : Nat) : Int) = 0 from rfl] at A7 A8
  simp only [v7, v8, show (C0 w.heap.size).l.length = 1 from rfl, show (C0 w.heap.size).cr.length = 0 from rfl, show (C0 w.heap.size).sg.length = 0 from rfl] at K7 K8
  have F3 := Lib.hid (F2.out.trans f3 fun q hq hh => by
    have := HFO.out q (by
      rcases hh with hh | hh
      · exact .inl hh
      · exact .inr ⟨_, List.getElem_mem h0, hh⟩)
    omega)
  clear KT hkm hkh hkr him3 f3 hft3 hk5 hks hkhl hf7 hf8 v7 v8 HFT HM HIM HRD F2 HFO
  go_wp2_with fail
  refine K7.mono ?_
  rintro e w4 ⟨vb, g0, g1, g2, g3, rfl, hv, _, f4⟩
  have K8' := K8 _ f4
  have I7 := Lib.hid hv.i0
  have F4 := Lib.hid f4
  clear K7 K8 hv f4
  go_wp2_with fail
  refine K8'.mono ?_
  rintro e w5 ⟨ub, u0, u1, u2, u3, rfl, hv, _, f5⟩
  have i7 := I7.out.fr f5 id
  have i8 := hv.i0
  have F5 := Lib.hid (fr_nil F4.out f5)
  have j7 := (i7.alloc (.cells #[.slice (some ⟨g0, 0, none⟩) 1 1, .slice (some ⟨g1, 0, none⟩) 1 1, .slice (some ⟨g2, 0, none⟩) 0 0, .slice (some ⟨g3, 0, none⟩) 0 0] 55)).alloc (.cells #[.slice (some ⟨u0, 0, none⟩) 1 1, .slice (some ⟨u1, 0, none⟩) 1 1, .slice (some ⟨u2, 0, none⟩) 0 0, .slice (some ⟨u3, 0, none⟩) 0 0] 55)
  have j8 := (i8.alloc (.cells #[.slice (some ⟨g0, 0, none⟩) 1 1, .slice (some ⟨g1, 0, none⟩) 1 1, .slice (some ⟨g2, 0, none⟩) 0 0, .slice (some ⟨g3, 0, none⟩) 0 0] 55)).alloc (.cells #[.slice (some ⟨u0, 0, none⟩) 1 1, .slice (some ⟨u1, 0, none⟩) 1 1, .slice (some ⟨u2, 0, none⟩) 0 0, .slice (some ⟨u3, 0, none⟩) 0 0] 55)
  have c0 : ((w5.alloc (.cells #[.slice (some ⟨g0, 0, none⟩) 1 1, .slice (some ⟨g1, 0, none⟩) 1 1, .slice (some ⟨g2, 0, none⟩) 0 0, .slice (some ⟨g3, 0, none⟩) 0 0] 55)).alloc (.cells #[.slice (some ⟨u0, 0, none⟩) 1 1, .slice (some ⟨u1, 0, none⟩) 1 1, .slice (some ⟨u2, 0, none⟩) 0 0, .slice (some ⟨u3, 0, none⟩) 0 0] 55)).cell? ⟨g0, 0, none⟩ = some (.int .i64 0) := (j7.cell 0).trans rfl
  have c1 : ((w5.alloc (.cells #[.slice (some ⟨g0, 0, none⟩) 1 1, .slice (some ⟨g1, 0, none⟩) 1 1, .slice (some ⟨g2, 0, none⟩) 0 0, .slice (some ⟨g3, 0, none⟩) 0 0] 55)).alloc (.cells #[.slice (some ⟨u0, 0, none⟩) 1 1, .slice (some ⟨u1, 0, none⟩) 1 1, .slice (some ⟨u2, 0, none⟩) 0 0, .slice (some ⟨u3, 0, none⟩) 0 0] 55)).cell? ⟨g0, 1, none⟩ = some (.int .i64 5) := (j7.cell 1).trans rfl
  have c2 : ((w5.alloc (.cells #[.slice (some ⟨g0, 0, none⟩) 1 1, .slice (some ⟨g1, 0, none⟩) 1 1, .slice (some ⟨g2, 0, none⟩) 0 0, .slice (some ⟨g3, 0, none⟩) 0 0] 55)).alloc (.cells #[.slice (some ⟨u0, 0, none⟩) 1 1, .slice (some ⟨u1, 0, none⟩) 1 1, .slice (some ⟨u2, 0, none⟩) 0 0, .slice (some ⟨u3, 0, none⟩) 0 0] 55)).cell? ⟨g0, 2, none⟩ = some (.bool true) := (j7.cell 2).trans rfl
  have e0 : ((w5.alloc (.cells #[.slice (some ⟨g0, 0, none⟩) 1 1, .slice (some ⟨g1, 0, none⟩) 1 1, .slice (some ⟨g2, 0, none⟩) 0 0, .slice (some ⟨g3, 0, none⟩) 0 0] 55)).alloc (.cells #[.slice (some ⟨u0, 0, none⟩) 1 1, .slice (some ⟨u1, 0, none⟩) 1 1, .slice (some ⟨u2, 0, none⟩) 0 0, .slice (some ⟨u3, 0, none⟩) 0 0] 55)).cell? ⟨u0, 0, none⟩ = some (.int .i64 1) := (j8.cell 0).trans rfl
  have e1 : ((w5.alloc (.cells #[.slice (some ⟨g0, 0, none⟩) 1 1, .slice (some ⟨g1, 0, none⟩) 1 1, .slice (some ⟨g2, 0, none⟩) 0 0, .slice (some ⟨g3, 0, none⟩) 0 0] 55)).alloc (.cells #[.slice (some ⟨u0, 0, none⟩) 1 1, .slice (some ⟨u1, 0, none⟩) 1 1, .slice (some ⟨u2, 0, none⟩) 0 0, .slice (some ⟨u3, 0, none⟩) 0 0] 55)).cell? ⟨u0, 1, none⟩ = some (.int .i64 (-1)) := (j8.cell 1).trans rfl
  have e2 : ((w5.alloc (.cells #[.slice (some ⟨g0, 0, none⟩) 1 1, .slice (some ⟨g1, 0, none⟩) 1 1, .slice (some ⟨g2, 0, none⟩) 0 0, .slice (some ⟨g3, 0, none⟩) 0 0] 55)).alloc (.cells #[.slice (some ⟨u0, 0, none⟩) 1 1, .slice (some ⟨u1, 0, none⟩) 1 1, .slice (some ⟨u2, 0, none⟩) 0 0, .slice (some ⟨u3, 0, none⟩) 0 0] 55)).cell? ⟨u0, 2, none⟩ = some (.bool false) := (j8.cell 2).trans rfl
  clear K8' hv f5 I7 F4 i7 i8 j7 j8
  go_wp2_with (first | (go_at_call 17; refine (A7 _ ((F5.out.alloc _).alloc _)).mono ?_; rintro e w6 ⟨rfl, f6⟩; have F6 := Lib.hid (((F5.out.alloc _).alloc _).trans f6 fun _ _ h => h); clear A7 f6 c0 c1 c2 e0 e1 e2) | (go_at_call 17; refine (A8 _ F6.out).mono ?_; rintro e w7 ⟨rfl, f7⟩))
  go_ret
  exact ⟨rfl, fr_nil (fr_nil F3.out F6.out) f7⟩
end Go.Proofs.Ytfmhfngilimhjaa.Im

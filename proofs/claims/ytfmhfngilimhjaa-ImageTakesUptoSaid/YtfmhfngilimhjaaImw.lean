/- The program's View. -/
import Derived.Test.YtfmhfngilimhjaaImv
namespace Go.Proofs.Ytfmhfngilimhjaa.Im
open Go.RowKit Li

theorem fr_nil {w w1 w2 : World} (h : Fr (fun _ => False) w w1) (k : Fr (fun _ => False) w1 w2) : Fr (fun _ => False) w w2 := h.trans k fun _ _ h => h
theorem unknown_ex (n : Nat) (worst : Int) (w : World) (hn : n ≤ 1048576) :
    Calls Try.prog 49 #[.int .i64 (n : Int), .int .i64 worst] w fun e w' => ∃ g, e = .returned (.slice (some ⟨g, 0, none⟩) n n) ∧ w.heap.size ≤ g ∧ g < w'.heap.size ∧ Is w' g 59 (cellsL (List.replicate n ⟨worst, -1, false⟩)).toArray ∧ Fr (fun _ => False) w w' :=
  (unknown_any n worst w hn).mono fun _ _ ⟨he, hi, f⟩ => ⟨w.heap.size, he, Nat.le_refl _, hi.lt, hi, f⟩
def worstL (n : Nat) (v : Int) : List Lk := List.replicate n ⟨v, -1, false⟩
theorem worstL_length (n : Nat) (v : Int) : (worstL n v).length = n := List.length_replicate
/-- the rows behind these controllers -/
def viewK (now age : Int) (h s : Kc → List Int) : List Kc → List Lk → List Lk
  | [], L => L
  | k :: ks, L => viewK now age h s ks (if k.m.fresh now age = true then putL k.z L (h k) (s k) else L)
theorem viewK_snoc (now age : Int) (h s : Kc → List Int) (k : Kc) : ∀ (ks : List Kc) (L : List Lk), viewK now age h s (ks ++ [k]) L = if k.m.fresh now age = true then putL k.z (viewK now age h s ks L) (h k) (s k) else viewK now age h s ks L
  | [], _ => rfl
  | _ :: ks, _ => viewK_snoc now age h s k ks _
theorem viewK_length (now age : Int) (h s : Kc → List Int) : ∀ (ks : List Kc) (L : List Lk), (viewK now age h s ks L).length = L.length
  | [], _ => rfl
  | k :: ks, L => by
    show (viewK now age h s ks _).length = _
    rw [viewK_length now age h s ks]
    split
    · exact putL_length _ _ _ _
    · rfl
/-- what the controllers hold is right for the configuration -/
structure Fit (C : Te.Cf) (j : Nat) (k : Kc) : Prop where
  h : k.h.st = Te.shL C (j : Nat)
  z : -1 ≤ k.z
  s : k.z ≠ -1 → k.s.st.hs = k.h.st.hs
theorem inr_idx {α : Type} (f : α → Bool) (l : List α) : InR (Te.idx f 0 l) l.length := fun e he => by
  obtain ⟨k, hk, rfl, _⟩ := (Te.idx_mem f l 0 e).1 he
  omega
structure Small (C : Te.Cf) : Prop where
  l : C.l.length ≤ 1048576
  cr : C.cr.length ≤ 1048576
  sg : C.sg.length ≤ 1048576
abbrev vOcc (C : Te.Cf) (now : Int) (ks : List Kc) : List Lk := viewK now C.t.age (fun k => k.h.occ.l) (fun k => k.s.occ.l) ks (worstL C.l.length 1)
abbrev vPos (C : Te.Cf) (now : Int) (ks : List Kc) : List Lk := viewK now C.t.age (fun k => k.h.pos.l) (fun k => k.s.pos.l) ks (worstL C.l.length 0)
abbrev vShut (C : Te.Cf) (now : Int) (ks : List Kc) : List Lk := viewK now C.t.age (fun k => k.h.shut.l) (fun k => k.s.shut.l) ks (worstL C.cr.length 0)
abbrev vLamp (C : Te.Cf) (now : Int) (ks : List Kc) : List Lk := viewK now C.t.age (fun k => k.h.lamp.l) (fun k => k.s.lamp.l) ks (worstL C.sg.length 0)

set_option maxHeartbeats 4000000 in
theorem view_any {w : World} {b : Nat} {ks : List Kc} {C : Te.Cf} (h : Im w b ks C) (h4 : ks.length = 4) (hC : Small C) (hf : ∀ j (hj : j < ks.length), Fit C j ks[j]) (now : Int) (hn : now ≤ 9223372036854775807) :
    Calls Try.prog 21 #[.pointer (some ⟨b, 0, none⟩), .int .i64 now] w fun e w' => ∃ vb g0 g1 g2 g3, e = .returned (.agg #[.slice (some ⟨g0, 0, none⟩) C.l.length C.l.length, .slice (some ⟨g1, 0, none⟩) C.l.length C.l.length, .slice (some ⟨g2, 0, none⟩) C.cr.length C.cr.length, .slice (some ⟨g3, 0, none⟩) C.sg.length C.sg.length]) ∧
      Vw w' vb g0 g1 g2 g3 (vOcc C now ks) (vPos C now ks) (vShut C now ks) (vLamp C now ks) ∧ (∀ q, Vw.foot g0 g1 g2 g3 q → w.heap.size ≤ q) ∧ Fr (fun _ => False) w w' := by
  obtain ⟨cs, ic, lay⟩ := h.is
  have K1 := fun W => unknown_ex C.l.length 1 W hC.l
  have K2 := fun W => unknown_ex C.l.length 0 W hC.l
  have K3 := fun W => unknown_ex C.cr.length 0 W hC.cr
  have K4 := fun W => unknown_ex C.sg.length 0 W hC.sg
  have IR := Is.new w 55 #[.slice none 0 0, .slice none 0 0, .slice none 0 0, .slice none 0 0]
  have f0 := (Fr.refl (fun _ => False) w).alloc (.cells #[.slice none 0 0, .slice none 0 0, .slice none 0 0, .slice none 0 0] 55)
  have ic0 := ic.fr f0 id
  have HI := Lib.hid h
  have HF := Lib.hid hf
  have HSM := Lib.hid hC
  clear h hf hC
  go_enter Try.func21, Try.ntmps21
  go_wp2_with fail
  generalize w.alloc _ = u0 at *
  have hwu : w.heap.size < u0.heap.size := IR.lt
  have sl : ∀ {U : World}, Fr (fun _ => False) u0 U → U.cell? ⟨b, 41, none⟩ = some (.int .i64 (C.l.length : Nat)) ∧ U.cell? ⟨b, 42, none⟩ = some (.int .i64 (C.cr.length : Nat)) ∧ U.cell? ⟨b, 43, none⟩ = some (.int .i64 (C.sg.length : Nat)) := fun f => ⟨((ic0.fr f id).cell 41).trans lay.ns, ((ic0.fr f id).cell 42).trans lay.nc, ((ic0.fr f id).cell 43).trans lay.ng⟩
  have g0 : Fr (fun _ => False) u0 u0.drew := (Fr.refl _ u0).drew
  have s0 := sl g0
  have al0 : ∀ {U : World} (O : Obj), Fr (fun _ => False) U (U.alloc O) := fun O => (Fr.refl _ _).alloc O
  have gz : ∀ O, Fr (fun _ => False) u0 (u0.alloc O).drew := fun O => ((Fr.refl _ u0).alloc O).drew
  have al : ∀ {U : World}, Fr (fun _ => False) u0 U → ∀ O, (U.alloc O).cell? ⟨b, 41, none⟩ = some (.int .i64 (C.l.length : Nat)) ∧ (U.alloc O).cell? ⟨b, 42, none⟩ = some (.int .i64 (C.cr.length : Nat)) ∧ (U.alloc O).cell? ⟨b, 43, none⟩ = some (.int .i64 (C.sg.length : Nat)) := fun f O => sl (f.alloc O)
  have a00 : ∀ O, (u0.alloc O).drew.cell? ⟨b, 41, none⟩ = some (.int .i64 (C.l.length : Nat)) ∧ (u0.alloc O).drew.cell? ⟨b, 42, none⟩ = some (.int .i64 (C.cr.length : Nat)) ∧ (u0.alloc O).drew.cell? ⟨b, 43, none⟩ = some (.int .i64 (C.sg.length : Nat)) := fun O => sl (gz O)
  have a0 := al (Fr.refl _ u0)
  have zn := fun W => Is.new W 55 #[.slice none 0 0, .slice none 0 0, .slice none 0 0, .slice none 0 0]
  have k4 : ∀ {U : World} {q : Nat} {v0 v1 v2 v3 : Value}, Fr (fun _ => False) u0 U → u0.heap.size ≤ q → ((((U.setCell ⟨q, 0, none⟩ v0).setCell ⟨q, 1, none⟩ v1).setCell ⟨q, 2, none⟩ v2).setCell ⟨q, 3, none⟩ v3).cell? ⟨b, 41, none⟩ = some (.int .i64 (C.l.length : Nat)) ∧ ((((U.setCell ⟨q, 0, none⟩ v0).setCell ⟨q, 1, none⟩ v1).setCell ⟨q, 2, none⟩ v2).setCell ⟨q, 3, none⟩ v3).cell? ⟨b, 42, none⟩ = some (.int .i64 (C.cr.length : Nat)) ∧ ((((U.setCell ⟨q, 0, none⟩ v0).setCell ⟨q, 1, none⟩ v1).setCell ⟨q, 2, none⟩ v2).setCell ⟨q, 3, none⟩ v3).cell? ⟨b, 43, none⟩ = some (.int .i64 (C.sg.length : Nat)) := fun f hq => sl ((((f.setCell (.inr hq) _).setCell (.inr hq) _).setCell (.inr hq) _).setCell (.inr hq) _)
  go_cut [5] from 7 (fun v5 wx => ∃ vb g1 g2 g3 g4, v5 = .pointer (some ⟨vb, 0, none⟩) ∧ Vw wx vb g1 g2 g3 g4 (worstL C.l.length 1) (worstL C.l.length 0) (worstL C.cr.length 0) (worstL C.sg.length 0) ∧ (∀ q, Vw.foot g1 g2 g3 g4 q → u0.heap.size ≤ q) ∧ u0.heap.size ≤ vb ∧ Fr (fun _ => False) u0 wx)
  case first =>
    go_region_held3 (fun Wx => Wx.cell? ⟨b, 41, none⟩ = some (.int .i64 (C.l.length : Nat)) ∧ Wx.cell? ⟨b, 42, none⟩ = some (.int .i64 (C.cr.length : Nat)) ∧ Wx.cell? ⟨b, 43, none⟩ = some (.int .i64 (C.sg.length : Nat))) (first | with_reducible exact s0 | with_reducible exact s1 | with_reducible exact s2 | with_reducible exact s3 | with_reducible exact s4 | with_reducible exact a00 _ | with_reducible exact a0 _ | with_reducible exact a1 _ | with_reducible exact a2 _ | with_reducible exact a3 _ | with_reducible exact a4 _ | exact k4 q4 (by have := q1.size; have := q2.size; have := q3.size; omega) | exact k4 q4 (Nat.le_refl _)) (first | (go_at_call 49; with_reducible refine (K4 _).mono ?_; rintro e u4 ⟨g4, rfl, m4, l4, I4, f4⟩; have f41 : Fr (fun _ => False) u3 u4 := (by first | with_reducible exact f4 | with_reducible exact fr_nil (al0 _) f4); have M4 : Hid (u3.heap.size ≤ g4) := Lib.hid (by first | exact m4 | (simp at m4; omega)); have H4 := Lib.hid f41; have L4 : Hid (g4 < u4.heap.size) := Lib.hid l4; have J4 := Lib.hid I4; have q4 : Fr (fun _ => False) u0 u4 := fr_nil q3 f41; have s4 := sl q4; have a4 := al q4; clear m4 l4 I4; (first | (with_reducible have y4 := y3.fr f41 id) | (with_reducible have y4 := (zn u3).fr f4 id) | skip); (first | (obtain ⟨yc0, yc1, yc2, yc3⟩ := Te.four_cells y4; have yz0 := y4.frozen 0; have yz1 := y4.frozen 1; have yz2 := y4.frozen 2; have yz3 := y4.frozen 3) | skip); clear f41 f4) | (go_at_call 49; with_reducible refine (K3 _).mono ?_; rintro e u3 ⟨g3, rfl, m3, l3, I3, f3⟩; have f31 : Fr (fun _ => False) u2 u3 := (by first | with_reducible exact f3 | with_reducible exact fr_nil (al0 _) f3); have M3 : Hid (u2.heap.size ≤ g3) := Lib.hid (by first | exact m3 | (simp at m3; omega)); have H3 := Lib.hid f31; have L3 : Hid (g3 < u3.heap.size) := Lib.hid l3; have J3 := Lib.hid I3; have q3 : Fr (fun _ => False) u0 u3 := fr_nil q2 f31; have s3 := sl q3; have a3 := al q3; clear m3 l3 I3; (first | (with_reducible have y3 := y2.fr f31 id) | (with_reducible have y3 := (zn u2).fr f3 id) | skip); clear f31 f3) | (go_at_call 49; with_reducible refine (K2 _).mono ?_; rintro e u2 ⟨g2, rfl, m2, l2, I2, f2⟩; have f21 : Fr (fun _ => False) u1 u2 := (by first | with_reducible exact f2 | with_reducible exact fr_nil (al0 _) f2); have M2 : Hid (u1.heap.size ≤ g2) := Lib.hid (by first | exact m2 | (simp at m2; omega)); have H2 := Lib.hid f21; have L2 : Hid (g2 < u2.heap.size) := Lib.hid l2; have J2 := Lib.hid I2; have q2 : Fr (fun _ => False) u0 u2 := fr_nil q1 f21; have s2 := sl q2; have a2 := al q2; clear m2 l2 I2; (first | (with_reducible have y2 := y1.fr f21 id) | (with_reducible have y2 := (zn u1).fr f2 id) | skip); clear f21 f2) | (go_at_call 49; with_reducible refine (K1 _).mono ?_; rintro e u1 ⟨g1, rfl, m1, l1, I1, f1⟩; have f11 : Fr (fun _ => False) u0 u1 := (by first | with_reducible exact fr_nil g0 f1 | with_reducible exact fr_nil (gz _) f1); have M1 : Hid (u0.heap.size ≤ g1) := Lib.hid (by first | exact m1 | exact Nat.le_of_succ_le m1 | (simp at m1; omega)); have H1 := Lib.hid f11; have L1 : Hid (g1 < u1.heap.size) := Lib.hid l1; have J1 := Lib.hid I1; have q1 : Fr (fun _ => False) u0 u1 := f11; have s1 := sl q1; have a1 := al q1; clear m1 l1 I1; (first | (with_reducible have y1 := (zn u0).drew.fr f1 id) | skip); clear f11 f1))
    all_goals
      have r1 := ((J1.out.fr H2.out id).fr H3.out id).fr H4.out id
      have r2 := (J2.out.fr H3.out id).fr H4.out id
      have r3 := J3.out.fr H4.out id
      have r4 := J4.out
      have o1 := M1.out
      have o2 := M2.out
      have o3 := M3.out
      have o4 := M4.out
      have o5 := L1.out
      have o6 := L2.out
      have o7 := L3.out
      have o8 := L4.out
      have hft : ∀ q, Vw.foot g1 g2 g3 g4 q → u0.heap.size ≤ q := fun q hq => by
        rcases hq with rfl | rfl | rfl | rfl <;> omega
    · go_wp2_with fail
      go_meet
      case rel =>
        refine ⟨u4.heap.size, g1, g2, g3, g4, rfl, ⟨by simp only [worstL_length]; exact Is.new _ _ _, r1.alloc _, r2.alloc _, r3.alloc _, r4.alloc _, by omega, by omega, by omega, by omega, by omega, by omega⟩, hft, by omega, q4.alloc _⟩
    · go_wp2_with fail
      go_meet
      case rel =>
        have iv := ((((y4.set 0 (.slice (some ⟨g1, 0, none⟩) C.l.length C.l.length)).set 1 (.slice (some ⟨g2, 0, none⟩) C.l.length C.l.length)).set 2 (.slice (some ⟨g3, 0, none⟩) C.cr.length C.cr.length)).set 3 (.slice (some ⟨g4, 0, none⟩) C.sg.length C.sg.length))
        have nv1 := is_ne y4 r1 (by decide)
        have nv2 := is_ne y4 r2 (by decide)
        have nv3 := is_ne y4 r3 (by decide)
        have nv4 := is_ne y4 r4 (by decide)
        have fv := ((((Fr.refl (fun q => q = u3.heap.size) u4).setCell (p := ⟨u3.heap.size, 0, none⟩) (.inl rfl) (.slice (some ⟨g1, 0, none⟩) C.l.length C.l.length)).setCell (p := ⟨u3.heap.size, 1, none⟩) (.inl rfl) (.slice (some ⟨g2, 0, none⟩) C.l.length C.l.length)).setCell (p := ⟨u3.heap.size, 2, none⟩) (.inl rfl) (.slice (some ⟨g3, 0, none⟩) C.cr.length C.cr.length)).setCell (p := ⟨u3.heap.size, 3, none⟩) (.inl rfl) (.slice (some ⟨g4, 0, none⟩) C.sg.length C.sg.length)
        refine ⟨u3.heap.size, g1, g2, g3, g4, rfl, ⟨by simp only [worstL_length]; exact iv, r1.fr fv (fun e => nv1 e.symm), r2.fr fv (fun e => nv2 e.symm), r3.fr fv (fun e => nv3 e.symm), r4.fr fv (fun e => nv4 e.symm), by omega, by omega, by omega, by omega, by omega, by omega⟩, hft, by omega, q4.trans fv fun q hq e => by omega⟩
    · go_wp2_with fail
      go_meet
      case rel =>
        have iv := ((((y4.set 0 (.slice (some ⟨g1, 0, none⟩) C.l.length C.l.length)).set 1 (.slice (some ⟨g2, 0, none⟩) C.l.length C.l.length)).set 2 (.slice (some ⟨g3, 0, none⟩) C.cr.length C.cr.length)).set 3 (.slice (some ⟨g4, 0, none⟩) C.sg.length C.sg.length))
        have nv1 := is_ne y4 r1 (by decide)
        have nv2 := is_ne y4 r2 (by decide)
        have nv3 := is_ne y4 r3 (by decide)
        have nv4 := is_ne y4 r4 (by decide)
        have fv := ((((Fr.refl (fun q => q = u2.heap.size) u4).setCell (p := ⟨u2.heap.size, 0, none⟩) (.inl rfl) (.slice (some ⟨g1, 0, none⟩) C.l.length C.l.length)).setCell (p := ⟨u2.heap.size, 1, none⟩) (.inl rfl) (.slice (some ⟨g2, 0, none⟩) C.l.length C.l.length)).setCell (p := ⟨u2.heap.size, 2, none⟩) (.inl rfl) (.slice (some ⟨g3, 0, none⟩) C.cr.length C.cr.length)).setCell (p := ⟨u2.heap.size, 3, none⟩) (.inl rfl) (.slice (some ⟨g4, 0, none⟩) C.sg.length C.sg.length)
        refine ⟨u2.heap.size, g1, g2, g3, g4, rfl, ⟨by simp only [worstL_length]; exact iv, r1.fr fv (fun e => nv1 e.symm), r2.fr fv (fun e => nv2 e.symm), r3.fr fv (fun e => nv3 e.symm), r4.fr fv (fun e => nv4 e.symm), by omega, by omega, by omega, by omega, by omega, by omega⟩, hft, by omega, q4.trans fv fun q hq e => by omega⟩
    · go_wp2_with fail
      go_meet
      case rel =>
        have iv := ((((y4.set 0 (.slice (some ⟨g1, 0, none⟩) C.l.length C.l.length)).set 1 (.slice (some ⟨g2, 0, none⟩) C.l.length C.l.length)).set 2 (.slice (some ⟨g3, 0, none⟩) C.cr.length C.cr.length)).set 3 (.slice (some ⟨g4, 0, none⟩) C.sg.length C.sg.length))
        have nv1 := is_ne y4 r1 (by decide)
        have nv2 := is_ne y4 r2 (by decide)
        have nv3 := is_ne y4 r3 (by decide)
        have nv4 := is_ne y4 r4 (by decide)
        have fv := ((((Fr.refl (fun q => q = u1.heap.size) u4).setCell (p := ⟨u1.heap.size, 0, none⟩) (.inl rfl) (.slice (some ⟨g1, 0, none⟩) C.l.length C.l.length)).setCell (p := ⟨u1.heap.size, 1, none⟩) (.inl rfl) (.slice (some ⟨g2, 0, none⟩) C.l.length C.l.length)).setCell (p := ⟨u1.heap.size, 2, none⟩) (.inl rfl) (.slice (some ⟨g3, 0, none⟩) C.cr.length C.cr.length)).setCell (p := ⟨u1.heap.size, 3, none⟩) (.inl rfl) (.slice (some ⟨g4, 0, none⟩) C.sg.length C.sg.length)
        refine ⟨u1.heap.size, g1, g2, g3, g4, rfl, ⟨by simp only [worstL_length]; exact iv, r1.fr fv (fun e => nv1 e.symm), r2.fr fv (fun e => nv2 e.symm), r3.fr fv (fun e => nv3 e.symm), r4.fr fv (fun e => nv4 e.symm), by omega, by omega, by omega, by omega, by omega, by omega⟩, hft, by omega, q4.trans fv fun q hq e => by omega⟩
    · go_wp2_with fail
      go_meet
      case rel =>
        have iv := ((((y4.set 0 (.slice (some ⟨g1, 0, none⟩) C.l.length C.l.length)).set 1 (.slice (some ⟨g2, 0, none⟩) C.l.length C.l.length)).set 2 (.slice (some ⟨g3, 0, none⟩) C.cr.length C.cr.length)).set 3 (.slice (some ⟨g4, 0, none⟩) C.sg.length C.sg.length))
        have nv1 := is_ne y4 r1 (by decide)
        have nv2 := is_ne y4 r2 (by decide)
        have nv3 := is_ne y4 r3 (by decide)
        have nv4 := is_ne y4 r4 (by decide)
        have fv := ((((Fr.refl (fun q => q = u0.heap.size) u4).setCell (p := ⟨u0.heap.size, 0, none⟩) (.inl rfl) (.slice (some ⟨g1, 0, none⟩) C.l.length C.l.length)).setCell (p := ⟨u0.heap.size, 1, none⟩) (.inl rfl) (.slice (some ⟨g2, 0, none⟩) C.l.length C.l.length)).setCell (p := ⟨u0.heap.size, 2, none⟩) (.inl rfl) (.slice (some ⟨g3, 0, none⟩) C.cr.length C.cr.length)).setCell (p := ⟨u0.heap.size, 3, none⟩) (.inl rfl) (.slice (some ⟨g4, 0, none⟩) C.sg.length C.sg.length)
        refine ⟨u0.heap.size, g1, g2, g3, g4, rfl, ⟨by simp only [worstL_length]; exact iv, r1.fr fv (fun e => nv1 e.symm), r2.fr fv (fun e => nv2 e.symm), r3.fr fv (fun e => nv3 e.symm), r4.fr fv (fun e => nv4 e.symm), by omega, by omega, by omega, by omega, by omega, by omega⟩, hft, by omega, q4.trans fv fun q hq e => by omega⟩
  case rest =>
    clear K1 K2 K3 K4 sl s0 g0 al0 gz al a00 a0 zn k4
    obtain ⟨vb, g1, g2, g3, g4, rfl, hv, hft, hvb, fr⟩ := hcut
    have HIU := Lib.hid (HI.out.fr0 f0)
    have HFT := Lib.hid hft
    have HIR := Lib.hid IR
    have HF0 := Lib.hid f0
    clear IR ic0 ic lay
    go_wp2_with fail
    go_loopw [28] (fun v28 wr => ∃ j : Nat, j ≤ 4 ∧ v28 = .int .i64 (j : Nat) ∧ Vw wr vb g1 g2 g3 g4 (vOcc C now (ks.take j)) (vPos C now (ks.take j)) (vShut C now (ks.take j)) (vLamp C now (ks.take j)) ∧ Fr (fun _ => False) u0 wr) (fun i _ => 4 - (intOf i).toNat)
    case atStart => exact ⟨0, Nat.zero_le _, rfl, hv, fr⟩
    case round =>
      clear hv fr
      obtain ⟨j, hj, rfl, hv, fr⟩ := hrel
      by_cases hlt : j < ks.length
      · have h1 := HIU.out.fr0 fr
        have hjf := HF.out j hlt
        have KA := alive_in h1 h4 hlt hjf.z now hn
        have hj4 : (j : Int) < 4 := by omega
        have HV := Lib.hid hv
        have H1 := Lib.hid h1
        have HFR := Lib.hid fr
        have hs0 := fun (h s : Kc → List Int) (L : List Lk) => viewK_snoc now C.t.age h s ks[j] (ks.take j) L
        rw [← List.take_succ_eq_append_getElem hlt] at hs0
        have HS0 := Lib.hid hs0
        clear hs0 hv h1 fr hft
        by_cases hq : ks[j].m.fresh now C.t.age = true
        · rw [hq] at KA
          have hzz : ks[j].z ≠ -1 := by
            intro e
            unfold Km.fresh at hq
            rw [show ks[j].m.z = ks[j].z from rfl, e] at hq
            simp at hq
          have hss := hjf.s hzz
          have hshl := hjf.h
          have e0 : ks[j].s.occ.l.length = ks[j].h.occ.l.length := congrArg Te.Hs.s hss
          have e1 : ks[j].s.pos.l.length = ks[j].h.pos.l.length := congrArg Te.Hs.p hss
          have e2 : ks[j].s.shut.l.length = ks[j].h.shut.l.length := congrArg Te.Hs.c hss
          have e3 : ks[j].s.lamp.l.length = ks[j].h.lamp.l.length := congrArg Te.Hs.g hss
          have l0 : ks[j].h.occ.l = _ := congrArg Te.St.occ hshl
          have l1 : ks[j].h.pos.l = _ := congrArg Te.St.pos hshl
          have l2 : ks[j].h.shut.l = _ := congrArg Te.St.shut hshl
          have l3 : ks[j].h.lamp.l = _ := congrArg Te.St.lamp hshl
          have KS := fun (W : World) (f : Fr (fun _ => False) wr W) => show_any (H1.out.fr0 f) hlt rfl (HV.out.fr f id fun _ _ => id) (fun c => by
              have := HFT.out b c
              have := HIU.out.lt
              have := HI.out.lt
              omega)
            (((HIU.out.ok _ (List.getElem_mem hlt)).h.off_new fun q hq => HFT.out q hq)) (((HIU.out.ok _ (List.getElem_mem hlt)).s.off_new fun q hq => HFT.out q hq)) e0 e1 e2 e3
            (by rw [l0]; simp only [vOcc, viewK_length, worstL_length]; exact inr_idx _ _) (by rw [l1]; simp only [vPos, viewK_length, worstL_length]; exact inr_idx _ _) (by rw [l2]; simp only [vShut, viewK_length, worstL_length]; exact inr_idx _ _) (by rw [l3]; simp only [vLamp, viewK_length, worstL_length]; exact inr_idx _ _)
          have HS := fun (h s : Kc → List Int) (L : List Lk) => (HS0.out h s L).trans (if_pos hq)
          have HSH := Lib.hid HS
          clear HS HS0 e0 e1 e2 e3 l0 l1 l2 l3 hss hshl hzz hq hjf
          go_wp2_with (go_at_call 17; refine KA.mono ?_; rintro e w1 ⟨rfl, fA⟩; have KS1 := KS _ fA; clear KS KA)
          refine KS1.mono ?_
          rintro e w2 ⟨rfl, hv2, fS⟩
          have HV2 := Lib.hid hv2
          have F2 := Lib.hid ((fr_nil HFR.out fA).trans fS fun q hq hh => absurd (HFT.out q hh) (by omega))
          clear KS1 hv2 fS fA
          go_wp2_with fail
          go_roundw
          case rel =>
            refine ⟨j + 1, by omega, by go_num, ?_, F2.out⟩
            have r := HV2.out
            unfold vOcc vPos vShut vLamp
            rw [HSH.out, HSH.out, HSH.out, HSH.out]
            exact r
          case measure => simp [intOf]; omega
        · have hqf : ks[j].m.fresh now C.t.age = false := by simpa using hq
          rw [hqf] at KA
          have HS := fun (h s : Kc → List Int) (L : List Lk) => (HS0.out h s L).trans (if_neg hq)
          have HSH := Lib.hid HS
          clear HS HS0 hq hqf hjf
          go_wp2_with (go_at_call 17; refine KA.mono ?_; rintro e w1 ⟨rfl, fA⟩; have HFA := Lib.hid fA; clear KA fA)
          go_roundw
          case rel =>
            refine ⟨j + 1, by omega, by go_num, ?_, fr_nil HFR.out HFA.out⟩
            unfold vOcc vPos vShut vLamp
            rw [HSH.out, HSH.out, HSH.out, HSH.out]
            exact HV.out.fr HFA.out id fun _ _ => id
          case measure => simp [intOf]; omega
      · have e : j = 4 := by omega
        subst e
        rw [List.take_of_length_le (by omega)] at hv
        have is := hv.is
        simp only [vOcc, vPos, vShut, vLamp, viewK_length, worstL_length] at is
        obtain ⟨v0, v1, v2, v3⟩ := Te.four_cells is
        have ir := HIR.out.fr fr id
        have z0 := ir.frozen 0
        have z1 := ir.frozen 1
        have z2 := ir.frozen 2
        have z3 := ir.frozen 3
        obtain ⟨n0, n1, n2, n3⟩ := Te.four_cells ir
        have HV := Lib.hid hv
        have HFR := Lib.hid fr
        have JR := Lib.hid ir
        clear hv is ir fr hft
        go_wp2_with fail
        have i7 := (((JR.out.set 0 (.slice (some ⟨g1, 0, none⟩) C.l.length C.l.length)).set 1 (.slice (some ⟨g2, 0, none⟩) C.l.length C.l.length)).set 2 (.slice (some ⟨g3, 0, none⟩) C.cr.length C.cr.length)).set 3 (.slice (some ⟨g4, 0, none⟩) C.sg.length C.sg.length)
        have f7 := ((((Fr.refl (fun q => q = w.heap.size) wr).setCell (p := ⟨w.heap.size, 0, none⟩) (.inl rfl) (.slice (some ⟨g1, 0, none⟩) C.l.length C.l.length)).setCell (p := ⟨w.heap.size, 1, none⟩) (.inl rfl) (.slice (some ⟨g2, 0, none⟩) C.l.length C.l.length)).setCell (p := ⟨w.heap.size, 2, none⟩) (.inl rfl) (.slice (some ⟨g3, 0, none⟩) C.cr.length C.cr.length)).setCell (p := ⟨w.heap.size, 3, none⟩) (.inl rfl) (.slice (some ⟨g4, 0, none⟩) C.sg.length C.sg.length)
        clear v0 v1 v2 v3 z0 z1 z2 z3 n0 n1 n2 n3
        generalize (((wr.setCell ⟨w.heap.size, 0, none⟩ (.slice (some ⟨g1, 0, none⟩) C.l.length C.l.length)).setCell ⟨w.heap.size, 1, none⟩ (.slice (some ⟨g2, 0, none⟩) C.l.length C.l.length)).setCell ⟨w.heap.size, 2, none⟩ (.slice (some ⟨g3, 0, none⟩) C.cr.length C.cr.length)).setCell ⟨w.heap.size, 3, none⟩ (.slice (some ⟨g4, 0, none⟩) C.sg.length C.sg.length) = W at *
        obtain ⟨m0, m1, m2, m3⟩ := Te.four_cells i7
        refine bodyPost_ret (v := .agg #[.slice (some ⟨g1, 0, none⟩) C.l.length C.l.length, .slice (some ⟨g2, 0, none⟩) C.l.length C.l.length, .slice (some ⟨g3, 0, none⟩) C.cr.length C.cr.length, .slice (some ⟨g4, 0, none⟩) C.sg.length C.sg.length]) (by simp [results, Try.results21, go_sem, m0, m1, m2, m3]) rfl ⟨vb, g1, g2, g3, g4, rfl, HV.out.fr f7 (by omega) (fun q hq e => by have := HFT.out q hq; omega), fun q hq => by have := HFT.out q hq; omega, (fr_nil HF0.out HFR.out).trans f7 fun q hq e => by omega⟩
end Go.Proofs.Ytfmhfngilimhjaa.Im

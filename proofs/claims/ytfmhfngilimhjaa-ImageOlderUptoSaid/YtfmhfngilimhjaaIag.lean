/- ImageAges, its walk. -/
import Derived.Test.YtfmhfngilimhjaaTold
import Derived.Test.YtfmhfngilimhjaaKe
import Derived.Test.YtfmhfngilimhjaaKn
namespace Go.Proofs.Ytfmhfngilimhjaa.Im
open Go.RowKit Li

theorem is_zero {w : World} {b n : Nat} (h : Is w b 3 (Array.replicate n (Value.int .i64 0))) (hn : n ≤ 1048576) : (Te.L3.mk (some ⟨b, 0, none⟩) (List.replicate n 0) n).Ok w := by
  refine ⟨fun _ => ⟨b, 0, rfl, h.lt, fun j u hu => ?_⟩, by simp; omega, fun _ k hk => ?_⟩
  · rw [Nat.zero_add, h.cell, ← hu, List.map_replicate, ← List.toArray_replicate, List.getElem?_toArray]
  · have e : b = k := by simpa [blk] using hk
    exact e ▸ h.lt
theorem idx_elem {C : Te.Cf} {l : List Int} {j : Nat} (e : l = Te.idx (Te.inB (j : Int)) 0 C.l) {i : Nat} (h : i < l.length) : ∃ m, ∃ _ : m < C.l.length, l[i] = (m : Int) ∧ C.l[m].oc = (j : Int) := by
  subst e
  obtain ⟨m, hm, e1, e2⟩ := (Te.idx_mem _ _ _ _).1 (List.getElem_mem h)
  exact ⟨m, hm, by rw [e1, Nat.zero_add], by simpa [Te.inB] using e2⟩
/-- the law's own boxes: the configuration, the controller's shape -/
def Ag (w : World) (a b : Nat) (A B : Array Value) (x : Te.Sta) : Prop := Is w a 30 A ∧ Is w b 33 B ∧ x.Ok w
theorem Ag.fr0 {w w1 : World} {a b : Nat} {A B : Array Value} {x : Te.Sta} (h : Ag w a b A B x) (f : Fr (fun _ => False) w w1) : Ag w1 a b A B x := ⟨h.1.fr f id, h.2.1.fr f id, h.2.2.fr f⟩
theorem Ag.fr2 {u w w1 : World} {a b : Nat} {A B : Array Value} {x : Te.Sta} {S : Nat → Prop} (h0 : Ag u a b A B x) (h : Ag w a b A B x) (f : Fr S w w1) (hs : ∀ q, S q → u.heap.size ≤ q) : Ag w1 a b A B x :=
  ⟨h.1.fr f fun e => by have := hs _ e; have := h0.1.lt; omega, h.2.1.fr f fun e => by have := hs _ e; have := h0.2.1.lt; omega, h.2.2.off f (h0.2.2.off_new hs)⟩
/-- four slices just laid, as one value -/
def agg4 (z n0 n1 n2 n3 : Nat) : Sp := ⟨fun v w => ∃ b0 b1 b2 b3, v = .agg #[.slice (some ⟨b0, 0, none⟩) n0 n0, .slice (some ⟨b1, 0, none⟩) n1 n1, .slice (some ⟨b2, 0, none⟩) n2 n2, .slice (some ⟨b3, 0, none⟩) n3 n3] ∧ (Is w b0 3 (Array.replicate n0 (Value.int .i64 0)) ∧ z ≤ b0) ∧ (Is w b1 3 (Array.replicate n1 (Value.int .i64 0)) ∧ z ≤ b1) ∧ (Is w b2 3 (Array.replicate n2 (Value.int .i64 0)) ∧ z ≤ b2) ∧ Is w b3 3 (Array.replicate n3 (Value.int .i64 0)) ∧ z ≤ b3,
  fun _ _ _ ⟨b0, b1, b2, b3, e, h0, h1, h2, h3⟩ f => ⟨b0, b1, b2, b3, e, ⟨h0.1.fr f id, h0.2⟩, ⟨h1.1.fr f id, h1.2⟩, ⟨h2.1.fr f id, h2.2⟩, h3.1.fr f id, h3.2⟩⟩
set_option maxHeartbeats 8000000 in
set_option maxRecDepth 100000 in
theorem ages_walk {C : Te.Cf} {w : World} (hC : C.Ok w) (hs : Small C) (oc late : Int) :
    Calls Try.prog 6 #[C.val, .int .i64 oc, .int .i64 late] w fun e w' => e = .returned (.bool true) ∧ Fr (fun _ => False) w w' := by
  have KL := fun W => lives_any W
  obtain ⟨j, hj, hj4⟩ := umod oc 4 (by decide) (by decide)
  obtain ⟨l, hl, hl30⟩ := umod late 30 (by decide) (by decide)
  simp only [show ((4 : Nat) : Int) = 4 from rfl] at hj
  simp only [show ((30 : Nat) : Int) = 30 from rfl] at hl
  unfold Te.Cf.val Te.Cf.cells at *
  have ib := Is.new w 30 C.arr
  have fb := (Fr.refl (fun _ => False) w).alloc (.cells C.arr 30)
  unfold Te.Cf.arr at *
  go_enter Try.func6, Try.ntmps6
  go_wp2_with fail
  generalize w.alloc _ = w0 at *
  have HB := Lib.hid ib
  have F0 := Lib.hid fb
  clear ib fb
  refine (KL _).mono ?_
  rintro e w1 ⟨rfl, f1⟩
  have ib := HB.out.fr f1 id
  have HB1 := Lib.hid ib
  have F1 := Lib.hid (fr_nil F0.out f1)
  have s0 := Te.nine_cells ib
  clear KL f1 HB F0 ib
  have HC1 := Lib.hid (hC.fr F1.out)
  go_wp2_with fail
  simp only [hj, hl]
  clear hj hl
  refine ((Te.refshape_any HC1.out (j : Int)).mono fun e w' k => (Te.ex_sta k)).mono ?_
  rintro e w2 ⟨x0, x1, x2, x3, rfl, hst, hok, hnew, f2⟩
  have HST := Lib.hid hst
  have HL1 : Hid (x1.l.length ≤ C.l.length) := Lib.hid (by
    have e : x1.l = _ := congrArg Te.St.pos hst
    rw [e]
    exact Te.idx_le _ _ _)
  have HOK := Lib.hid hok
  have ib2 := HB1.out.fr f2 id
  have F2 := Lib.hid (fr_nil F1.out f2)
  clear hst hok hnew f2 s0 HC1 F1 HB1
  unfold Te.Sta.val
  simp only
  have s0 := Te.nine_cells (ib2.alloc (.cells #[.slice x0.A x0.l.length x0.c, .slice x1.A x1.l.length x1.c, .slice x2.A x2.l.length x2.c, .slice x3.A x3.l.length x3.c] 33))
  have ih := Is.new w2 33 #[.slice x0.A x0.l.length x0.c, .slice x1.A x1.l.length x1.c, .slice x2.A x2.l.length x2.c, .slice x3.A x3.l.length x3.c]
  have HIH := Lib.hid ih
  have HIB := Lib.hid (ib2.alloc (.cells #[.slice x0.A x0.l.length x0.c, .slice x1.A x1.l.length x1.c, .slice x2.A x2.l.length x2.c, .slice x3.A x3.l.length x3.c] 33))
  have HOK3 := Lib.hid (HOK.out.fr ((Fr.refl (fun _ => False) w2).alloc (.cells #[.slice x0.A x0.l.length x0.c, .slice x1.A x1.l.length x1.c, .slice x2.A x2.l.length x2.c, .slice x3.A x3.l.length x3.c] 33)))
  have F3 := Lib.hid (F2.out.alloc (.cells #[.slice x0.A x0.l.length x0.c, .slice x1.A x1.l.length x1.c, .slice x2.A x2.l.length x2.c, .slice x3.A x3.l.length x3.c] 33))
  clear ib2 ih HOK F2
  by_cases q0 : x0.l.length = 0
  · have d0 : ((x0.l.length : Int) == 0) = true := by rw [beq_iff_eq]; omega
    clear q0
    go_wp2_with fail
    go_ret
    exact ⟨rfl, F3.out⟩
  have d0 : ((x0.l.length : Int) == 0) = false := by rw [beq_eq_false_iff_ne]; omega
  by_cases q1 : C.t.age < 1
  · have d1 : decide (C.t.age < 1) = true := decide_eq_true q1
    go_wp2_with fail
    go_ret
    exact ⟨rfl, F3.out⟩
  have d1 : decide (C.t.age < 1) = false := decide_eq_false q1
  by_cases q2 : 8 < C.t.age
  · have d2 : decide (8 < C.t.age) = true := decide_eq_true q2
    go_wp2_with fail
    go_ret
    exact ⟨rfl, F3.out⟩
  have d2 : decide (8 < C.t.age) = false := decide_eq_false q2
  by_cases q3 : (200 : Int) < (x0.l.length : Int)
  · have d3 : decide ((200 : Int) < (x0.l.length : Int)) = true := decide_eq_true q3
    go_wp2_with fail
    go_ret
    exact ⟨rfl, F3.out⟩
  have d3 : decide ((200 : Int) < (x0.l.length : Int)) = false := decide_eq_false q3
  by_cases q4 : (200 : Int) < (x3.l.length : Int)
  · have d4 : decide ((200 : Int) < (x3.l.length : Int)) = true := decide_eq_true q4
    go_wp2_with fail
    go_ret
    exact ⟨rfl, F3.out⟩
  have d4 : decide ((200 : Int) < (x3.l.length : Int)) = false := decide_eq_false q4
  by_cases q5 : (200 : Int) < (x2.l.length : Int)
  · have d5 : decide ((200 : Int) < (x2.l.length : Int)) = true := decide_eq_true q5
    go_wp2_with fail
    go_ret
    exact ⟨rfl, F3.out⟩
  have d5 : decide ((200 : Int) < (x2.l.length : Int)) = false := decide_eq_false q5
  go_wp2_with fail
  have hage := HIB.out
  generalize w2.alloc _ = w3 at *
  have HC4 : Hid (∀ W, Fr (fun _ => False) w3.drew W → W.cell? ⟨w2.heap.size, 0, none⟩ = some (.slice x0.A x0.l.length x0.c) ∧ W.cell? ⟨w2.heap.size, 1, none⟩ = some (.slice x1.A x1.l.length x1.c) ∧ W.cell? ⟨w2.heap.size, 2, none⟩ = some (.slice x2.A x2.l.length x2.c) ∧ W.cell? ⟨w2.heap.size, 3, none⟩ = some (.slice x3.A x3.l.length x3.c)) := Lib.hid fun W f => Te.four_cells (Is.fr (S := fun _ => False) (Is.drew HIH.out) f id)
  have hlen1 : x1.l.length ≤ 1048576 := by have := HL1.out; have := hs.l; omega
  clear d0 d1 d2 d3 d4 d5 s0 hage
  go_cut [8] from 67 (fun v8 wx => ∃ (sb : Nat) (x : Te.Sta), v8 = .pointer (some ⟨sb, 0, none⟩) ∧ Is wx sb 65 x.cells.toArray ∧ x.Ok wx ∧ x.st = ⟨List.replicate x0.l.length 0, List.replicate x1.l.length 0, List.replicate x2.l.length 0, List.replicate x3.l.length 0⟩ ∧ w3.heap.size ≤ sb ∧ Fr (fun _ => False) w3 wx)
  case first =>
    refine region_late 18 [67, 68, 69, 70, 71, 72, 73, 74, 75, 76, 77, 78, 79, 80, 81, 82, 83, 8] [(67, .val (.pointer (some ⟨w2.heap.size, 0, none⟩))), (68, .val (.slice x0.A x0.l.length x0.c)), (69, .val (.int .i64 (x0.l.length : Nat))), (70, .made w3.heap.size 3 x0.l.length (Array.replicate x0.l.length (Value.int .i64 0))), (71, .val (.pointer (some ⟨w2.heap.size, 1, none⟩))), (72, .val (.slice x1.A x1.l.length x1.c)), (73, .val (.int .i64 (x1.l.length : Nat))), (74, .made w3.heap.size 3 x1.l.length (Array.replicate x1.l.length (Value.int .i64 0))), (75, .val (.pointer (some ⟨w2.heap.size, 2, none⟩))), (76, .val (.slice x2.A x2.l.length x2.c)), (77, .val (.int .i64 (x2.l.length : Nat))), (78, .made w3.heap.size 3 x2.l.length (Array.replicate x2.l.length (Value.int .i64 0))), (79, .val (.pointer (some ⟨w2.heap.size, 3, none⟩))), (80, .val (.slice x3.A x3.l.length x3.c)), (81, .val (.int .i64 (x3.l.length : Nat))), (82, .made w3.heap.size 3 x3.l.length (Array.replicate x3.l.length (Value.int .i64 0))), (83, agg4 w3.heap.size x0.l.length x1.l.length x2.l.length x3.l.length), (8, .box w3.heap.size 65 #[.slice none 0 0, .slice none 0 0, .slice none 0 0, .slice none 0 0])] (by kernel_rfl) (by kernel_rfl) (by kernel_rfl) (by decide) (by kernel_rfl) (by kernel_rfl) (by kernel_rfl) ?_ ?_
    · intro i o ho him
      have hcase : i = 0 ∨ i = 1 ∨ i = 2 ∨ i = 3 ∨ i = 4 ∨ i = 5 ∨ i = 6 ∨ i = 7 ∨ i = 8 ∨ i = 9 ∨ i = 10 ∨ i = 11 ∨ i = 12 ∨ i = 13 ∨ i = 14 ∨ i = 15 ∨ i = 16 ∨ i = 17 := by omega
      clear him
      rcases hcase with rfl | rfl | rfl | rfl | rfl | rfl | rfl | rfl | rfl | rfl | rfl | rfl | rfl | rfl | rfl | rfl | rfl | rfl <;> (injection ho with ho; subst ho; intro a' w' hf hl)
      · have e7 : a'.eval (.tmp 7) = .pointer (some ⟨w2.heap.size, 0, none⟩) := hl 7 (by decide)
        refine l_of rfl (v := .pointer (some ⟨w2.heap.size, 0, none⟩)) (w' := w') (by clear hl; revert e7; generalize a'.eval = ev; intro e7; go_simp) (putL' (Fr.refl _ _) rfl)
      · have e7 : a'.eval (.tmp 67) = .pointer (some ⟨w2.heap.size, 0, none⟩) := hl 67 (by decide)
        have c := (HC4.out w' hf).1
        refine l_of rfl (v := .slice x0.A x0.l.length x0.c) (w' := w') (by clear hl; revert e7; generalize a'.eval = ev; intro e7; go_simp) (putL' (Fr.refl _ _) rfl)
      · have e7 : a'.eval (.tmp 68) = .slice x0.A x0.l.length x0.c := hl 68 (by decide)
        refine l_of rfl (v := .int .i64 (x0.l.length : Nat)) (w' := w') (by clear hl; revert e7; generalize a'.eval = ev; intro e7; go_simp) (putL' (Fr.refl _ _) rfl)
      · have e7 : a'.eval (.tmp 69) = .int .i64 (x0.l.length : Nat) := hl 69 (by decide)
        have hmk := Te.mk_ints x0.l.length (by omega) w'
        refine l_of rfl (v := .slice (some ⟨w'.heap.size, 0, none⟩) x0.l.length x0.l.length) (w' := w'.alloc (.cells (Array.replicate x0.l.length (Value.int .i64 0)) 3)) (by clear hl; revert e7; generalize a'.eval = ev; intro e7; go_simp) (putL' ((Fr.refl _ _).alloc _) ⟨_, rfl, Is.new _ _ _, hf.size⟩)
      · have e7 : a'.eval (.tmp 7) = .pointer (some ⟨w2.heap.size, 0, none⟩) := hl 7 (by decide)
        refine l_of rfl (v := .pointer (some ⟨w2.heap.size, 1, none⟩)) (w' := w') (by clear hl; revert e7; generalize a'.eval = ev; intro e7; go_simp) (putL' (Fr.refl _ _) rfl)
      · have e7 : a'.eval (.tmp 71) = .pointer (some ⟨w2.heap.size, 1, none⟩) := hl 71 (by decide)
        have c := (HC4.out w' hf).2.1
        refine l_of rfl (v := .slice x1.A x1.l.length x1.c) (w' := w') (by clear hl; revert e7; generalize a'.eval = ev; intro e7; go_simp) (putL' (Fr.refl _ _) rfl)
      · have e7 : a'.eval (.tmp 72) = .slice x1.A x1.l.length x1.c := hl 72 (by decide)
        refine l_of rfl (v := .int .i64 (x1.l.length : Nat)) (w' := w') (by clear hl; revert e7; generalize a'.eval = ev; intro e7; go_simp) (putL' (Fr.refl _ _) rfl)
      · have e7 : a'.eval (.tmp 73) = .int .i64 (x1.l.length : Nat) := hl 73 (by decide)
        have hmk := Te.mk_ints x1.l.length (by omega) w'
        refine l_of rfl (v := .slice (some ⟨w'.heap.size, 0, none⟩) x1.l.length x1.l.length) (w' := w'.alloc (.cells (Array.replicate x1.l.length (Value.int .i64 0)) 3)) (by clear hl; revert e7; generalize a'.eval = ev; intro e7; go_simp) (putL' ((Fr.refl _ _).alloc _) ⟨_, rfl, Is.new _ _ _, hf.size⟩)
      · have e7 : a'.eval (.tmp 7) = .pointer (some ⟨w2.heap.size, 0, none⟩) := hl 7 (by decide)
        refine l_of rfl (v := .pointer (some ⟨w2.heap.size, 2, none⟩)) (w' := w') (by clear hl; revert e7; generalize a'.eval = ev; intro e7; go_simp) (putL' (Fr.refl _ _) rfl)
      · have e7 : a'.eval (.tmp 75) = .pointer (some ⟨w2.heap.size, 2, none⟩) := hl 75 (by decide)
        have c := (HC4.out w' hf).2.2.1
        refine l_of rfl (v := .slice x2.A x2.l.length x2.c) (w' := w') (by clear hl; revert e7; generalize a'.eval = ev; intro e7; go_simp) (putL' (Fr.refl _ _) rfl)
      · have e7 : a'.eval (.tmp 76) = .slice x2.A x2.l.length x2.c := hl 76 (by decide)
        refine l_of rfl (v := .int .i64 (x2.l.length : Nat)) (w' := w') (by clear hl; revert e7; generalize a'.eval = ev; intro e7; go_simp) (putL' (Fr.refl _ _) rfl)
      · have e7 : a'.eval (.tmp 77) = .int .i64 (x2.l.length : Nat) := hl 77 (by decide)
        have hmk := Te.mk_ints x2.l.length (by omega) w'
        refine l_of rfl (v := .slice (some ⟨w'.heap.size, 0, none⟩) x2.l.length x2.l.length) (w' := w'.alloc (.cells (Array.replicate x2.l.length (Value.int .i64 0)) 3)) (by clear hl; revert e7; generalize a'.eval = ev; intro e7; go_simp) (putL' ((Fr.refl _ _).alloc _) ⟨_, rfl, Is.new _ _ _, hf.size⟩)
      · have e7 : a'.eval (.tmp 7) = .pointer (some ⟨w2.heap.size, 0, none⟩) := hl 7 (by decide)
        refine l_of rfl (v := .pointer (some ⟨w2.heap.size, 3, none⟩)) (w' := w') (by clear hl; revert e7; generalize a'.eval = ev; intro e7; go_simp) (putL' (Fr.refl _ _) rfl)
      · have e7 : a'.eval (.tmp 79) = .pointer (some ⟨w2.heap.size, 3, none⟩) := hl 79 (by decide)
        have c := (HC4.out w' hf).2.2.2
        refine l_of rfl (v := .slice x3.A x3.l.length x3.c) (w' := w') (by clear hl; revert e7; generalize a'.eval = ev; intro e7; go_simp) (putL' (Fr.refl _ _) rfl)
      · have e7 : a'.eval (.tmp 80) = .slice x3.A x3.l.length x3.c := hl 80 (by decide)
        refine l_of rfl (v := .int .i64 (x3.l.length : Nat)) (w' := w') (by clear hl; revert e7; generalize a'.eval = ev; intro e7; go_simp) (putL' (Fr.refl _ _) rfl)
      · have e7 : a'.eval (.tmp 81) = .int .i64 (x3.l.length : Nat) := hl 81 (by decide)
        have hmk := Te.mk_ints x3.l.length (by omega) w'
        refine l_of rfl (v := .slice (some ⟨w'.heap.size, 0, none⟩) x3.l.length x3.l.length) (w' := w'.alloc (.cells (Array.replicate x3.l.length (Value.int .i64 0)) 3)) (by clear hl; revert e7; generalize a'.eval = ev; intro e7; go_simp) (putL' ((Fr.refl _ _).alloc _) ⟨_, rfl, Is.new _ _ _, hf.size⟩)
      · obtain ⟨b0, e0, i0⟩ := (hl 70 (by decide) : (Sp.made _ _ _ _).p _ _)
        obtain ⟨b1, e1, i1⟩ := (hl 74 (by decide) : (Sp.made _ _ _ _).p _ _)
        obtain ⟨b2, e2, i2⟩ := (hl 78 (by decide) : (Sp.made _ _ _ _).p _ _)
        obtain ⟨b3, e3, i3⟩ := (hl 82 (by decide) : (Sp.made _ _ _ _).p _ _)
        refine l_of rfl (v := .agg #[.slice (some ⟨b0, 0, none⟩) x0.l.length x0.l.length, .slice (some ⟨b1, 0, none⟩) x1.l.length x1.l.length, .slice (some ⟨b2, 0, none⟩) x2.l.length x2.l.length, .slice (some ⟨b3, 0, none⟩) x3.l.length x3.l.length]) (w' := w') (by clear hl; revert e0 e1 e2 e3; generalize a'.eval = ev; intro e0 e1 e2 e3; go_simp) (putL' (Fr.refl _ _) ⟨b0, b1, b2, b3, rfl, i0, i1, i2, i3⟩)
      · refine l_of rfl (v := .pointer (some ⟨w'.heap.size, 0, none⟩)) (w' := w'.alloc (.cells #[.slice none 0 0, .slice none 0 0, .slice none 0 0, .slice none 0 0] 65)) (by clear hl; generalize a'.eval = ev; go_simp) (putL' ((Fr.refl _ _).alloc _) ⟨_, rfl, Is.new _ _ _, hf.size⟩)
    · intro val w' hf hT
      obtain ⟨sb, e8, ibx, hsb⟩ := (hT 8 (by decide) : (Sp.box _ _ _).p _ _)
      obtain ⟨b0, b1, b2, b3, e83, i0, i1, i2, i3⟩ := (hT 83 (by decide) : (agg4 _ _ _ _ _).p _ _)
      simp only [laidL, List.foldl_cons, List.foldl_nil, e8, e83]
      clear hT
      generalize val 67 = v67; generalize val 68 = v68; generalize val 69 = v69; generalize val 70 = v70; generalize val 71 = v71; generalize val 72 = v72; generalize val 73 = v73; generalize val 74 = v74; generalize val 75 = v75; generalize val 76 = v76; generalize val 77 = v77; generalize val 78 = v78; generalize val 79 = v79; generalize val 80 = v80; generalize val 81 = v81; generalize val 82 = v82
      simp only [List.setIfInBounds_toArray, List.set_cons_succ, List.set_cons_zero]
      have m0 := Te.four_cells ibx
      have z0 := ibx.frozen 0
      have z1 := ibx.frozen 1
      have z2 := ibx.frozen 2
      have z3 := ibx.frozen 3
      have hsbn : ∀ b cs, Is w' b 3 cs → ¬ b = sb := fun b cs h => is_ne h ibx (by decide)
      have ist := ((((ibx.set 0 (.slice (some ⟨b0, 0, none⟩) x0.l.length x0.l.length)).set 1 (.slice (some ⟨b1, 0, none⟩) x1.l.length x1.l.length)).set 2 (.slice (some ⟨b2, 0, none⟩) x2.l.length x2.l.length)).set 3 (.slice (some ⟨b3, 0, none⟩) x3.l.length x3.l.length))
      have fst := ((((Fr.refl (fun q => q = sb) w').setCell (p := ⟨sb, 0, none⟩) (.inl rfl) (.slice (some ⟨b0, 0, none⟩) x0.l.length x0.l.length)).setCell (p := ⟨sb, 1, none⟩) (.inl rfl) (.slice (some ⟨b1, 0, none⟩) x1.l.length x1.l.length)).setCell (p := ⟨sb, 2, none⟩) (.inl rfl) (.slice (some ⟨b2, 0, none⟩) x2.l.length x2.l.length)).setCell (p := ⟨sb, 3, none⟩) (.inl rfl) (.slice (some ⟨b3, 0, none⟩) x3.l.length x3.l.length)
      refine tail1 rfl rfl rfl (w' := (((w'.setCell ⟨sb, 0, none⟩ (.slice (some ⟨b0, 0, none⟩) x0.l.length x0.l.length)).setCell ⟨sb, 1, none⟩ (.slice (some ⟨b1, 0, none⟩) x1.l.length x1.l.length)).setCell ⟨sb, 2, none⟩ (.slice (some ⟨b2, 0, none⟩) x2.l.length x2.l.length)).setCell ⟨sb, 3, none⟩ (.slice (some ⟨b3, 0, none⟩) x3.l.length x3.l.length)) (by go_simp) ?_
      go_wp2_with fail
      go_meet
      case rel =>
        have r0 := is_zero (i0.1.fr fst (hsbn _ _ i0.1)) (by omega)
        have r1 := is_zero (i1.1.fr fst (hsbn _ _ i1.1)) (by omega)
        have r2 := is_zero (i2.1.fr fst (hsbn _ _ i2.1)) (by omega)
        have r3 := is_zero (i3.1.fr fst (hsbn _ _ i3.1)) (by omega)
        refine ⟨sb, ⟨⟨some ⟨b0, 0, none⟩, List.replicate x0.l.length 0, x0.l.length⟩, ⟨some ⟨b1, 0, none⟩, List.replicate x1.l.length 0, x1.l.length⟩, ⟨some ⟨b2, 0, none⟩, List.replicate x2.l.length 0, x2.l.length⟩, ⟨some ⟨b3, 0, none⟩, List.replicate x3.l.length 0, x3.l.length⟩⟩, rfl, ?_, ⟨r0, r1, r2, r3⟩, rfl, hsb, ((Fr.refl (fun _ => False) w3).drew.trans hf fun _ _ h => h).trans fst fun q hq e => by omega⟩
        unfold Te.Sta.cells
        simp only [List.length_replicate]
        exact ist
  case rest =>
    obtain ⟨sb, ⟨y0, y1, y2, y3⟩, rfl, isb, yok, yst, hsb, fr⟩ := hcut
    have ih := HIH.out.fr fr id
    have HB3 : Hid (Ag wc w.heap.size w2.heap.size _ _ ⟨x0, x1, x2, x3⟩) := Lib.hid ⟨HIB.out.fr fr id, HIH.out.fr fr id, HOK3.out.fr fr⟩
    have HFR := Lib.hid (fr_nil F3.out fr)
    have HOK4 := Lib.hid (HOK3.out.fr fr)
    have m7 := Te.four_cells ih
    have m8 := Te.four_cells (show Is wc sb 65 #[.slice y0.A y0.l.length y0.c, .slice y1.A y1.l.length y1.c, .slice y2.A y2.l.length y2.c, .slice y3.A y3.l.length y3.c] from isb)
    have hst := HST.out
    have l0 : x0.l = Te.idx (Te.inB (j : Int)) 0 C.l := congrArg Te.St.occ hst
    have l1 : x1.l = Te.idx (Te.ptB (j : Int)) 0 C.l := congrArg Te.St.pos hst
    have hl10 : x1.l.length ≤ x0.l.length := by rw [l0, l1]; exact sub_len _ _
    have yz : (Te.Sta.mk y0 y1 y2 y3).st = zeros (Te.Sta.mk x0 x1 x2 x3).st.hs := yst
    have hok := zeros_ok (Te.Sta.mk x0 x1 x2 x3).st.hs
    have hbig : 1 + (Te.Sta.mk x0 x1 x2 x3).st.hs.s + (Te.Sta.mk x0 x1 x2 x3).st.hs.p + (Te.Sta.mk x0 x1 x2 x3).st.hs.c + (Te.Sta.mk x0 x1 x2 x3).st.hs.g ≤ 1000 := by
      show 1 + x0.l.length + x1.l.length + x2.l.length + x3.l.length ≤ 1000
      omega
    have KS := Te.refstatus_any (h := (Te.Sta.mk x0 x1 x2 x3).sh) yok
    rw [yz] at KS
    have hsh : (Te.Sta.mk x0 x1 x2 x3).sh.hs = (Te.Sta.mk x0 x1 x2 x3).st.hs := rfl
    rw [hsh, show Te.stL (Te.Sta.mk x0 x1 x2 x3).st.hs (zeros (Te.Sta.mk x0 x1 x2 x3).st.hs) = ((zeros (Te.Sta.mk x0 x1 x2 x3).st.hs).bytes, 0) from if_pos hok] at KS
    simp only [Te.Sh.val, Te.Sta.sh, Te.Sta.val] at KS
    have hm2 := told_make hok hbig hj4 (n := 1) (s := 100) (by decide) (by decide) (by decide) (by decide)
    have hrd := told_read hok hbig hj4 (n := 1) (s := 100) (by decide) (by decide) (by decide) (by decide)
    have hhe := hear_new hok j (age := C.t.age) (n := 1) (by omega) (s := Te.nilSta.st)
    have hsx : (Te.shL C (j : Int)).hs = (Te.Sta.mk x0 x1 x2 x3).st.hs := by rw [hst]
    have KM := fun W => rmake_any (j : Int) 1 100 ⟨(zeros (Te.Sta.mk x0 x1 x2 x3).st.hs).bytes.toArray⟩ W
    rw [show ∀ l : List UInt8, bytesOf ⟨l.toArray⟩ = l from fun _ => rfl] at KM
    rw [hm2] at KM
    generalize (zeros (Te.Sta.mk x0 x1 x2 x3).st.hs).bytes = pl at *
    generalize (makeL (j : Int) 1 100 pl).1 = tl at *
    have HRD := Lib.hid hrd
    have HHE := Lib.hid hhe
    have HSX := Lib.hid hsx
    have HL01 := Lib.hid (And.intro l0 l1)
    have HSBX := Lib.hid isb
    clear hst l0 l1 hl10 yz hok hbig hsh hm2 hrd hhe hsx isb yok yst ih
    go_wp2_with fail
    refine KS.mono ?_
    rintro e w5 ⟨rfl, f5⟩
    have HF5 := Lib.hid (fr_nil HFR.out f5)
    have hb5 := HB3.out.fr0 f5
    have HB5 := Lib.hid hb5
    clear KS f5 m7 m8
    go_wp2_with fail
    refine (KM _).mono ?_
    rintro e w6 ⟨rfl, f6⟩
    have hb6 := HB5.out.fr0 f6
    have HB6 := Lib.hid hb6
    have s6 := Te.nine_cells hb6.1
    have HF6 := Lib.hid (fr_nil HF5.out f6)
    have KN := new_any (hC.fr HF6.out)
    unfold Te.Cf.val Te.Cf.cells at KN
    clear KM f6 hb5 hb6
    go_wp2_with fail
    refine KN.mono ?_
    rintro e w7 ⟨b, ks, rfl, him, h4, hm, hfo, _, f7⟩
    have hjk : j < ks.length := by omega
    have hft := new_fit hm
    have hz0 : ks[j].z = -1 := congrArg Km.z (hm j hjk).1
    have hr0 : ks[j].r = R.new (j : Int) C.t.age := congrArg Km.r (hm j hjk).1
    have hmr : ks[j].m = ⟨R.new (j : Int) C.t.age, Te.nilSta.st, -1⟩ := (hm j hjk).1
    have hmh : ks[j].h.st = Te.shL C (j : Int) := (hm j hjk).2
    have hfr0 : ks[j].m.fresh 100 C.t.age = false := by rw [hmr]; rfl
    have KA := alive_in him h4 hjk (by omega) 100 (by decide)
    rw [hfr0] at KA
    have KT := fun (W : World) (f : Fr (fun _ => False) w7 W) => take_in (him.fr0 f) h4 hjk 100 ⟨tl.toArray⟩ (by decide) (by rw [hr0]; show (0 : Int) ≤ 0; decide) (by rw [hr0]; show (0 : Int) ≤ 4611686018427387904; decide)
    rw [show bytesOf ⟨tl.toArray⟩ = tl from rfl, HRD.out, hmr, hmh, HSX.out, HHE.out] at KT
    simp only at KT
    have HFT := Lib.hid hft
    have HOTH : Hid (∀ i (h : i < ks.length), ks[i].z = -1) := Lib.hid fun i h => congrArg Km.z (hm i h).1
    have HFO6 : Hid (∀ q, Foot b ks q → w6.heap.size ≤ q) := Lib.hid hfo
    have HFO : Hid (∀ q, Foot b ks q → w.heap.size ≤ q) := Lib.hid fun q hq => Nat.le_trans HF6.out.size (hfo q hq)
    have HF7 := Lib.hid (fr_nil HF6.out f7)
    have HB7 := Lib.hid (HB6.out.fr0 f7)
    clear KN s6 hm hfo hft hz0 hr0 hmr hfr0 him f7
    go_wp2_with fail
    refine KA.mono ?_
    rintro e w8 ⟨rfl, f8⟩
    have KT8 := KT _ f8
    clear KA KT
    go_wp2_with fail
    refine KT8.mono ?_
    rintro e w9 ⟨k, rfl, hkm, hkh, hkr, him9, f9⟩
    have hl9 : (ks.set j k).length = 4 := by rw [List.length_set]; exact h4
    have hj9 : j < (ks.set j k).length := by omega
    have hgj : (ks.set j k)[j] = k := List.getElem_set_self _
    have hkz : k.z = 100 := congrArg Km.z hkm
    have hks : k.s.st = zeros (Te.Sta.mk x0 x1 x2 x3).st.hs := congrArg Km.s hkm
    have hkst : k.h.st = Te.shL C (j : Int) := by rw [hkh]; exact hmh
    have hft9 : ∀ i (hi : i < (ks.set j k).length), Fit C i (ks.set j k)[i] := fun i hi => by
      by_cases e : j = i
      · subst e
        rw [hgj]
        refine ⟨hkst, by omega, fun _ => ?_⟩
        rw [hks, hkst, HSX.out]
        unfold zeros Te.St.hs
        simp only [List.length_replicate]
      · rw [List.getElem_set_ne e]
        exact HFT.out i (by rw [List.length_set] at hi; exact hi)
    have hoth : ∀ i (hi : i < (ks.set j k).length), i ≠ j → ∀ now, (ks.set j k)[i].m.fresh now C.t.age = false := fun i hi hne now => by
      rw [List.getElem_set_ne (Ne.symm hne)]
      have := HOTH.out i (by rw [List.length_set] at hi; exact hi)
      unfold Km.fresh
      rw [show (ks[i]'(by rw [List.length_set] at hi; exact hi)).m.z = (ks[i]'(by rw [List.length_set] at hi; exact hi)).z from rfl, this]
      rfl
    obtain ⟨q, hq⟩ : ∃ q, q = decide ((l : Int) ≤ C.t.age) := ⟨_, rfl⟩
    have hfr9 : k.m.fresh (100 + (l : Int)) C.t.age = q := by
      unfold Km.fresh
      rw [show k.m.z = k.z from rfl, hkz, hq, show (100 : Int) + (l : Int) - 100 = (l : Int) by omega, decide_eq_true (show (100 : Int) ≤ 100 + (l : Int) by omega)]
      rfl
    -- each section of the controller
    have hsee : ∀ i (hi : i < C.l.length), C.l[i].oc = (j : Int) → (vOcc C (100 + (l : Int)) (ks.set j k))[i]? = some (if q = true then ⟨0, 100, true⟩ else ⟨1, -1, false⟩) := fun i hi hoc => by
      have hocc : k.h.occ.l = Te.idx (Te.inB (j : Int)) 0 C.l := congrArg Te.St.occ hkst
      cases q with
      | true =>
        have hmem : ((i : Nat) : Int) ∈ k.h.occ.l := by rw [hocc]; exact (mem_occ hi).2 hoc
        obtain ⟨p, hp, hpe⟩ := List.getElem_of_mem hmem
        have hsl : k.s.occ.l = List.replicate (Te.Sta.mk x0 x1 x2 x3).st.hs.s 0 := congrArg Te.St.occ hks
        have hlen : k.s.occ.l.length = k.h.occ.l.length := by
          have e1 := (hgj ▸ hft9 j hj9 : Fit C j k)
          exact e1.socc (by omega)
        rw [occ_told hft9 (100 + (l : Int)) hi hj9 (by rw [hgj]; exact hfr9) (p := p) (by rw [hgj]; exact hp) (by rw [hgj]; omega) (by simp only [hgj]; exact hpe)]
        simp only [hgj, hkz, hsl, List.getElem_replicate, if_true]
      | false =>
        rw [occ_silent hft9 (100 + (l : Int)) hi fun i' hi' hoc' => by
          have e : i' = j := by omega
          subst e
          rw [hgj]
          exact hfr9]
        rfl
    have hsil : ∀ i (hi : i < C.l.length), C.l[i].oc ≠ (j : Int) → (vOcc C (100 + (l : Int)) (ks.set j k))[i]? = some ⟨1, -1, false⟩ := fun i hi hoc =>
      occ_silent hft9 (100 + (l : Int)) hi fun i' hi' hoc' => hoth i' hi' (fun e => hoc (by rw [hoc', e])) _
    have HSEE := Lib.hid hsee
    have HSIL := Lib.hid hsil
    have KV := view_any him9 hl9 hs hft9 (100 + (l : Int)) (by omega)
    have KA := fun (W : World) (f : Fr (fun _ => False) w9 W) => alive_in (him9.fr0 f) hl9 hj9 (by rw [hgj, hkz]; decide) (100 + (l : Int)) (by omega)
    simp only [hgj, hfr9] at KA
    have hvl : (vOcc C (100 + (l : Int)) (ks.set j k)).length = C.l.length := by rw [vOcc, viewK_length, worstL_length]
    have HVL := Lib.hid hvl
    generalize vOcc C (100 + (l : Int)) (ks.set j k) = V at *
    have HF9 := Lib.hid ((fr_nil HF7.out f8).trans f9 fun q' hq' hh => by
      have := HFO.out q' (by
        rcases hh with hh | hh
        · exact .inl hh
        · exact .inr ⟨_, List.getElem_mem hjk, hh⟩)
      omega)
    have HB9 := Lib.hid (Ag.fr2 HB6.out (HB7.out.fr0 f8) f9 fun q' hq' => HFO6.out q' (by
      rcases hq' with hh | hh
      · exact .inl hh
      · exact .inr ⟨_, List.getElem_mem hjk, hh⟩))
    clear KT8 hkm hkh hkr him9 f8 f9 hft9 hoth hsee hsil hfr9 hks hkst hkz hgj hj9 hl9 hmh hvl HFT HOTH
    have s9 := Te.nine_cells HB9.out.1
    have hq' := hq.symm
    clear hq
    go_wp2_with fail
    refine KV.mono ?_
    rintro e w10 ⟨vb, g0, g1, g2, g3, rfl, hv, _, f10⟩
    have i0 := hv.i0.alloc (.cells #[.slice (some ⟨g0, 0, none⟩) C.l.length C.l.length, .slice (some ⟨g1, 0, none⟩) C.l.length C.l.length, .slice (some ⟨g2, 0, none⟩) C.cr.length C.cr.length, .slice (some ⟨g3, 0, none⟩) C.sg.length C.sg.length] 55)
    have F10 := Lib.hid (f10.alloc (.cells #[.slice (some ⟨g0, 0, none⟩) C.l.length C.l.length, .slice (some ⟨g1, 0, none⟩) C.l.length C.l.length, .slice (some ⟨g2, 0, none⟩) C.cr.length C.cr.length, .slice (some ⟨g3, 0, none⟩) C.sg.length C.sg.length] 55))
    have HB10 := Lib.hid (HB9.out.fr0 (f10.alloc (.cells #[.slice (some ⟨g0, 0, none⟩) C.l.length C.l.length, .slice (some ⟨g1, 0, none⟩) C.l.length C.l.length, .slice (some ⟨g2, 0, none⟩) C.cr.length C.cr.length, .slice (some ⟨g3, 0, none⟩) C.sg.length C.sg.length] 55)))
    have iv := Is.new w10 55 #[.slice (some ⟨g0, 0, none⟩) C.l.length C.l.length, .slice (some ⟨g1, 0, none⟩) C.l.length C.l.length, .slice (some ⟨g2, 0, none⟩) C.cr.length C.cr.length, .slice (some ⟨g3, 0, none⟩) C.sg.length C.sg.length]
    have HI0 := Lib.hid i0
    have HIV := Lib.hid iv
    clear KV hv f10 s9 i0 iv
    go_wp2_with fail
    generalize w10.alloc _ = w11 at *
    refine (KA _ F10.out).mono ?_
    rintro e w12 ⟨rfl, f12⟩
    have i0 := HI0.out.fr f12 id
    have iv := HIV.out.fr f12 id
    have hb12 := HB10.out.fr0 f12
    have HB12 := Lib.hid hb12
    have s12 := Te.nine_cells hb12.1
    have h12 := Te.four_cells hb12.2.1
    have v12 := Te.four_cells iv
    have F12 := Lib.hid (fr_nil F10.out f12)
    have HI12 := Lib.hid i0
    have HV12 := Lib.hid iv
    clear KA f12 i0 iv
    obtain ⟨A0, l0, c0⟩ := x0
    simp only at *
    obtain ⟨g9, o9, hA9, _, hrd9⟩ := HB12.out.2.2.occ.rd (by simp; omega)
    simp only at hA9 hrd9
    subst hA9
    have HRD0 : Hid (∀ i (h : i < l0.length), w12.cell? ⟨g9, o9 + i, none⟩ = some (.int .i64 l0[i])) := Lib.hid fun i h => hrd9 i _ (by rw [List.getElem?_map, List.getElem?_eq_getElem h]; rfl)
    have HM : Hid (∀ i (h : i < l0.length), ∃ m, ∃ _ : m < C.l.length, l0[i] = (m : Int) ∧ C.l[m].oc = (j : Int)) := Lib.hid fun i h => idx_elem HL01.out.1 h
    clear hrd9
    obtain ⟨ga, oa, hA⟩ : ∃ ga oa, C.A1 = some ⟨ga, oa, none⟩ := by
      obtain ⟨m, hm, _, _⟩ := HM.out 0 (by omega)
      obtain ⟨ga, oa, hA, _⟩ := Te.rd_sec hC.secs hm
      exact ⟨ga, oa, hA⟩
    have HA := Lib.hid hA
    have HW := Lib.hid (fr_nil HF9.out F12.out)
    have hcl : (C.l.length : Int) ≤ 1048576 := by have := hs.l; omega
    clear hA
    go_wp2_with fail
    clear h12 v12 s12
    cases q with
    | true =>
      have hsee : ∀ i (hi : i < C.l.length), C.l[i].oc = (j : Int) → V[i]? = some ⟨0, 100, true⟩ := fun i hi ho => HSEE.out i hi ho
      have HS2 := Lib.hid hsee
      clear hsee
      go_loopw [136] (fun v wr => ∃ i : Nat, i ≤ l0.length ∧ v = .int .i64 (i : Nat) ∧ wr = w12) (fun i _ => l0.length - (intOf i).toNat)
      case atStart => exact ⟨0, Nat.zero_le _, rfl, rfl⟩
      case round =>
        obtain ⟨i, hi, rfl, rfl⟩ := hrel
        by_cases hlt : i < l0.length
        · have c1 := HRD0.out i hlt
          obtain ⟨m, hm, hme, hmo⟩ := HM.out i hlt
          rw [hme] at c1
          have hm9 : (m : Int) < (C.l.length : Int) := by omega
          have hv := HS2.out m hm hmo
          have hmv : m < V.length := by rw [HVL.out]; exact hm
          rw [List.getElem?_eq_getElem hmv, Option.some.injEq] at hv
          have lc := look_cells HI12.out hmv
          rw [hv] at lc
          have v12 := Te.four_cells HV12.out
          clear hv hme hmo hm
          go_wp2_with fail
          go_roundw
          case rel => exact ⟨i + 1, by omega, by go_num, trivial⟩
          case measure => simp [intOf]; omega
        · have e : i = l0.length := by omega
          subst e
          have s12 := Te.nine_cells HB12.out.1
          go_wp2_with fail
          clear s12
          simp only [HA.out]
          go_loopw [173] (fun v wx => ∃ i : Nat, i ≤ C.l.length ∧ v = .int .i64 (i : Nat) ∧ Fr (fun _ => False) wr wx) (fun i _ => C.l.length - (intOf i).toNat)
          case atStart => exact ⟨0, Nat.zero_le _, rfl, Fr.refl _ _⟩
          case round =>
            obtain ⟨i, hi, rfl, fx⟩ := hrel
            by_cases hlt : i < C.l.length
            · obtain ⟨g', o', hA', _, q0, q1, q2⟩ := Te.rd_sec (hC.fr (fr_nil HW.out fx)).secs hlt
              rw [HA.out] at hA'
              injection hA' with hA'
              injection hA' with e1 e2
              subst e1 e2
              have hvs : i < V.length := by rw [HVL.out]; exact hlt
              have ivx := HV12.out.fr fx id
              have i0x := HI12.out.fr fx id
              have v12 := Te.four_cells (ivx.alloc (.cells #[.int .i64 C.l[i].kind, .int .i64 C.l[i].oc, .int .i64 C.l[i].line] 38))
              have hi9 : (i : Int) < (C.l.length : Int) := by omega
              by_cases ho : C.l[i].oc = (j : Int)
              · have hb : (C.l[i].oc != (j : Int)) = false := by simp [ho]
                have F13 := Lib.hid (fx.alloc (.cells #[.int .i64 C.l[i].kind, .int .i64 C.l[i].oc, .int .i64 C.l[i].line] 38))
                generalize C.l[i].kind = kk at *
                generalize C.l[i].line = ll at *
                generalize C.l[i].oc = oo at *
                clear ho hvs i0x ivx
                go_wp2_with fail
                go_roundw
                case rel => exact ⟨i + 1, by omega, by go_num, F13.out⟩
                case measure => simp [intOf]; omega
              · have hb : (C.l[i].oc != (j : Int)) = true := by simpa using ho
                have hv := HSIL.out i hlt ho
                rw [List.getElem?_eq_getElem hvs, Option.some.injEq] at hv
                have lc := look_cells (i0x.alloc (.cells #[.int .i64 C.l[i].kind, .int .i64 C.l[i].oc, .int .i64 C.l[i].line] 38)) hvs
                rw [hv] at lc
                have F13 := Lib.hid (fx.alloc (.cells #[.int .i64 C.l[i].kind, .int .i64 C.l[i].oc, .int .i64 C.l[i].line] 38))
                generalize C.l[i].kind = kk at *
                generalize C.l[i].line = ll at *
                generalize C.l[i].oc = oo at *
                clear ho hv i0x ivx hvs
                go_wp2_with fail
                go_roundw
                case rel => exact ⟨i + 1, by omega, by go_num, F13.out⟩
                case measure => simp [intOf]; omega
            · have e : i = C.l.length := by omega
              subst e
              go_wp2_with fail
              go_ret
              exact ⟨rfl, fr_nil HW.out fx⟩
    | false =>
      have hsee : ∀ i (hi : i < C.l.length), C.l[i].oc = (j : Int) → V[i]? = some ⟨1, -1, false⟩ := fun i hi ho => HSEE.out i hi ho
      have HS2 := Lib.hid hsee
      clear hsee
      go_loopw [136] (fun v wr => ∃ i : Nat, i ≤ l0.length ∧ v = .int .i64 (i : Nat) ∧ wr = w12) (fun i _ => l0.length - (intOf i).toNat)
      case atStart => exact ⟨0, Nat.zero_le _, rfl, rfl⟩
      case round =>
        obtain ⟨i, hi, rfl, rfl⟩ := hrel
        by_cases hlt : i < l0.length
        · have c1 := HRD0.out i hlt
          obtain ⟨m, hm, hme, hmo⟩ := HM.out i hlt
          rw [hme] at c1
          have hm9 : (m : Int) < (C.l.length : Int) := by omega
          have hv := HS2.out m hm hmo
          have hmv : m < V.length := by rw [HVL.out]; exact hm
          rw [List.getElem?_eq_getElem hmv, Option.some.injEq] at hv
          have lc := look_cells HI12.out hmv
          rw [hv] at lc
          have v12 := Te.four_cells HV12.out
          clear hv hme hmo hm
          go_wp2_with fail
          go_roundw
          case rel => exact ⟨i + 1, by omega, by go_num, trivial⟩
          case measure => simp [intOf]; omega
        · have e : i = l0.length := by omega
          subst e
          have s12 := Te.nine_cells HB12.out.1
          go_wp2_with fail
          clear s12
          simp only [HA.out]
          go_loopw [173] (fun v wx => ∃ i : Nat, i ≤ C.l.length ∧ v = .int .i64 (i : Nat) ∧ Fr (fun _ => False) wr wx) (fun i _ => C.l.length - (intOf i).toNat)
          case atStart => exact ⟨0, Nat.zero_le _, rfl, Fr.refl _ _⟩
          case round =>
            obtain ⟨i, hi, rfl, fx⟩ := hrel
            by_cases hlt : i < C.l.length
            · obtain ⟨g', o', hA', _, q0, q1, q2⟩ := Te.rd_sec (hC.fr (fr_nil HW.out fx)).secs hlt
              rw [HA.out] at hA'
              injection hA' with hA'
              injection hA' with e1 e2
              subst e1 e2
              have hvs : i < V.length := by rw [HVL.out]; exact hlt
              have ivx := HV12.out.fr fx id
              have i0x := HI12.out.fr fx id
              have v12 := Te.four_cells (ivx.alloc (.cells #[.int .i64 C.l[i].kind, .int .i64 C.l[i].oc, .int .i64 C.l[i].line] 38))
              have hi9 : (i : Int) < (C.l.length : Int) := by omega
              by_cases ho : C.l[i].oc = (j : Int)
              · have hb : (C.l[i].oc != (j : Int)) = false := by simp [ho]
                have F13 := Lib.hid (fx.alloc (.cells #[.int .i64 C.l[i].kind, .int .i64 C.l[i].oc, .int .i64 C.l[i].line] 38))
                generalize C.l[i].kind = kk at *
                generalize C.l[i].line = ll at *
                generalize C.l[i].oc = oo at *
                clear ho hvs i0x ivx
                go_wp2_with fail
                go_roundw
                case rel => exact ⟨i + 1, by omega, by go_num, F13.out⟩
                case measure => simp [intOf]; omega
              · have hb : (C.l[i].oc != (j : Int)) = true := by simpa using ho
                have hv := HSIL.out i hlt ho
                rw [List.getElem?_eq_getElem hvs, Option.some.injEq] at hv
                have lc := look_cells (i0x.alloc (.cells #[.int .i64 C.l[i].kind, .int .i64 C.l[i].oc, .int .i64 C.l[i].line] 38)) hvs
                rw [hv] at lc
                have F13 := Lib.hid (fx.alloc (.cells #[.int .i64 C.l[i].kind, .int .i64 C.l[i].oc, .int .i64 C.l[i].line] 38))
                generalize C.l[i].kind = kk at *
                generalize C.l[i].line = ll at *
                generalize C.l[i].oc = oo at *
                clear ho hv i0x ivx hvs
                go_wp2_with fail
                go_roundw
                case rel => exact ⟨i + 1, by omega, by go_num, F13.out⟩
                case measure => simp [intOf]; omega
            · have e : i = C.l.length := by omega
              subst e
              go_wp2_with fail
              go_ret
              exact ⟨rfl, fr_nil HW.out fx⟩
end Go.Proofs.Ytfmhfngilimhjaa.Im

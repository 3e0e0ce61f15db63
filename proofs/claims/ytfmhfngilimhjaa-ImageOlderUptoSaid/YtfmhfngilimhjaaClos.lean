/- ImageOlder's closure: what a controller tells. -/
import Derived.Test.YtfmhfngilimhjaaTold
import Derived.Test.YtfmhfngilimhjaaKe
import Derived.Deep.Cut
import Derived.Deep.CutRange
namespace Go.Proofs.Ytfmhfngilimhjaa.Im
open Go.RowKit Li

def footS (_ : Nat) (v : Value) (b : Nat) : Prop := ∃ n, v = .slice (some ⟨b, 0, none⟩) n n
theorem foot_made {z n : Nat} {t : TypeId} {cs : Array Value} {v : Value} {w : World} {k q : Nat} (h : (Sp.made z t n cs).p v w) (hq : footS k v q) : q < w.heap.size := by
  obtain ⟨b, e, i, _⟩ := h
  obtain ⟨m, e2⟩ := hq
  rw [e] at e2
  injection e2 with e2
  injection e2 with e2
  injection e2 with e2
  exact e2 ▸ i.lt
theorem foot_new {k q n z : Nat} (h : footS k (.slice (some ⟨z, 0, none⟩) n n) q) : z ≤ q := by
  obtain ⟨m, e2⟩ := h
  injection e2 with e2
  injection e2 with e2
  injection e2 with e2
  omega
theorem no_foot {M : List (Nat × Nat)} {foot : Nat → Value → Nat → Prop} {i : Nat} {v : Value} {w : World} (h : (M.all fun p => p.1 != i) = true) : ∀ p ∈ M, p.1 = i → ∀ b, foot p.2 v b → w.heap.size ≤ b := fun p hp e => by
  rw [List.all_eq_true] at h
  have := h p hp
  simp [e] at this
def agg4d (z n0 n1 n2 n3 : Nat) : Sp := ⟨fun v w => ∃ b0 b1 b2 b3, v = .agg #[.slice (some ⟨b0, 0, none⟩) n0 n0, .slice (some ⟨b1, 0, none⟩) n1 n1, .slice (some ⟨b2, 0, none⟩) n2 n2, .slice (some ⟨b3, 0, none⟩) n3 n3] ∧ (Is w b0 3 (Array.replicate n0 (Value.int .i64 0)) ∧ z ≤ b0) ∧ (Is w b1 3 (Array.replicate n1 (Value.int .i64 0)) ∧ z ≤ b1) ∧ (Is w b2 3 (Array.replicate n2 (Value.int .i64 0)) ∧ z ≤ b2) ∧ (Is w b3 3 (Array.replicate n3 (Value.int .i64 0)) ∧ z ≤ b3) ∧ b0 ≠ b1 ∧ b0 ≠ b2 ∧ b0 ≠ b3,
  fun _ _ _ ⟨b0, b1, b2, b3, e, h0, h1, h2, h3, n⟩ f => ⟨b0, b1, b2, b3, e, ⟨h0.1.fr f id, h0.2⟩, ⟨h1.1.fr f id, h1.2⟩, ⟨h2.1.fr f id, h2.2⟩, ⟨h3.1.fr f id, h3.2⟩, n⟩⟩
/-- one section occupied, or not -/
def tellS (h : Te.Hs) (occ : Int) : Te.St := { zeros h with occ := (List.replicate h.s (0 : Int)).set 0 occ }
theorem tell_ok (h : Te.Hs) {occ : Int} (h0 : 0 ≤ occ) (h1 : occ ≤ 1) : (tellS h occ).ok h = true := by
  have z := Te.St.ok_iff.1 (zeros_ok h)
  refine Te.St.ok_iff.2 ⟨Te.okL_iff.2 ⟨by show ((List.replicate h.s (0 : Int)).set 0 occ).length = h.s; simp, fun x hx => ?_⟩, z.2.1, z.2.2.1, z.2.2.2⟩
  rcases List.mem_or_eq_of_mem_set hx with hx | rfl
  · rw [(List.mem_replicate.1 hx).2]
    omega
  · exact ⟨h0, h1⟩
theorem is_list {w : World} {b n : Nat} {cs : List Int} (h : Is w b 3 (cs.map (Value.int .i64)).toArray) (hl : cs.length = n) (hn : n ≤ 1048576) : (Te.L3.mk (some ⟨b, 0, none⟩) cs n).Ok w := by
  refine ⟨fun _ => ⟨b, 0, rfl, h.lt, fun j u hu => ?_⟩, by show cs.length ≤ _; omega, fun _ k hk => ?_⟩
  · rw [Nat.zero_add, h.cell, ← hu, List.getElem?_toArray]
  · have e : b = k := by simpa [blk] using hk
    exact e ▸ h.lt
theorem rep_list (n : Nat) : Array.replicate n (Value.int .i64 0) = ((List.replicate n (0 : Int)).map (Value.int .i64)).toArray := by
  rw [List.map_replicate, List.toArray_replicate]

set_option maxHeartbeats 4000000 in
set_option maxRecDepth 100000 in
theorem tell_any {w : World} {hb ob j : Nat} {x0 x1 x2 x3 : Te.L3} (ih : Is w hb 33 #[.slice x0.A x0.l.length x0.c, .slice x1.A x1.l.length x1.c, .slice x2.A x2.l.length x2.c, .slice x3.A x3.l.length x3.c]) (ho : w.cell? ⟨ob, 0, none⟩ = some (.int .i64 (j : Int))) (l0 : 0 < x0.l.length) (l0' : x0.l.length ≤ 200) (l1 : x1.l.length ≤ 200) (l2 : x2.l.length ≤ 200) (l3 : x3.l.length ≤ 200) (n s occ : Int) :
    Calls Try.prog 27 #[.int .i64 n, .int .i64 s, .int .i64 occ, .pointer (some ⟨hb, 0, none⟩), .pointer (some ⟨ob, 0, none⟩)] w fun e w' => e = .returned (.string ⟨(makeL (j : Int) n s (Te.stL (Te.Sta.mk x0 x1 x2 x3).st.hs (tellS (Te.Sta.mk x0 x1 x2 x3).st.hs occ)).1).1.toArray⟩) ∧ Fr (fun _ => False) w w' := by
  have HC4 : Hid (∀ W, Fr (fun _ => False) w.drew W → W.cell? ⟨hb, 0, none⟩ = some (.slice x0.A x0.l.length x0.c) ∧ W.cell? ⟨hb, 1, none⟩ = some (.slice x1.A x1.l.length x1.c) ∧ W.cell? ⟨hb, 2, none⟩ = some (.slice x2.A x2.l.length x2.c) ∧ W.cell? ⟨hb, 3, none⟩ = some (.slice x3.A x3.l.length x3.c)) := Lib.hid fun W f => Te.four_cells (Is.fr (S := fun _ => False) (Is.drew ih) f id)
  have HIH := Lib.hid ih
  have HO := Lib.hid ho
  have hob := World.block_lt_of_cell? _ _ ho
  obtain ⟨z0, hz⟩ : ∃ z0, z0 = w.drew.heap.size := ⟨_, rfl⟩
  have hz0 : w.heap.size ≤ z0 := by rw [hz]; exact Nat.le_refl _
  clear ih ho
  go_enter Try.func27, Try.ntmps27
  go_wp2_with fail
  go_cut [9] from 14 (fun v9 wx => ∃ sb b0 b1 b2 b3 : Nat, v9 = .pointer (some ⟨sb, 0, none⟩) ∧ Is wx sb 65 #[.slice (some ⟨b0, 0, none⟩) x0.l.length x0.l.length, .slice (some ⟨b1, 0, none⟩) x1.l.length x1.l.length, .slice (some ⟨b2, 0, none⟩) x2.l.length x2.l.length, .slice (some ⟨b3, 0, none⟩) x3.l.length x3.l.length] ∧ Is wx b0 3 (Array.replicate x0.l.length (Value.int .i64 0)) ∧ Is wx b1 3 (Array.replicate x1.l.length (Value.int .i64 0)) ∧ Is wx b2 3 (Array.replicate x2.l.length (Value.int .i64 0)) ∧ Is wx b3 3 (Array.replicate x3.l.length (Value.int .i64 0)) ∧ b0 ≠ b1 ∧ b0 ≠ b2 ∧ b0 ≠ b3 ∧ w.heap.size ≤ b0 ∧ z0 ≤ sb ∧ Fr (fun _ => False) w wx)
  case first =>
    refine region_lateD 18 [14, 15, 16, 17, 18, 19, 20, 21, 22, 23, 24, 25, 26, 27, 28, 29, 30, 9] [(14, .val (.pointer (some ⟨hb, 0, none⟩))), (15, .val (.slice x0.A x0.l.length x0.c)), (16, .val (.int .i64 (x0.l.length : Nat))), (17, .made z0 3 x0.l.length (Array.replicate x0.l.length (Value.int .i64 0))), (18, .val (.pointer (some ⟨hb, 1, none⟩))), (19, .val (.slice x1.A x1.l.length x1.c)), (20, .val (.int .i64 (x1.l.length : Nat))), (21, .made z0 3 x1.l.length (Array.replicate x1.l.length (Value.int .i64 0))), (22, .val (.pointer (some ⟨hb, 2, none⟩))), (23, .val (.slice x2.A x2.l.length x2.c)), (24, .val (.int .i64 (x2.l.length : Nat))), (25, .made z0 3 x2.l.length (Array.replicate x2.l.length (Value.int .i64 0))), (26, .val (.pointer (some ⟨hb, 3, none⟩))), (27, .val (.slice x3.A x3.l.length x3.c)), (28, .val (.int .i64 (x3.l.length : Nat))), (29, .made z0 3 x3.l.length (Array.replicate x3.l.length (Value.int .i64 0))), (30, agg4d z0 x0.l.length x1.l.length x2.l.length x3.l.length), (9, .box z0 65 #[.slice none 0 0, .slice none 0 0, .slice none 0 0, .slice none 0 0])] [(3, 17), (7, 21), (11, 25), (15, 29)] footS (by kernel_rfl) (by kernel_rfl) (by kernel_rfl) (fun p hp v w' h q hq => ?_) (by kernel_rfl) (by kernel_rfl) (by kernel_rfl) (by decide) (by kernel_rfl) (by kernel_rfl) (by kernel_rfl) ?_ ?_
    · simp only [List.mem_cons, List.not_mem_nil, or_false] at hp
      rcases hp with rfl | rfl | rfl | rfl <;> exact foot_made h hq
    · intro i o ho him
      have hcase : i = 0 ∨ i = 1 ∨ i = 2 ∨ i = 3 ∨ i = 4 ∨ i = 5 ∨ i = 6 ∨ i = 7 ∨ i = 8 ∨ i = 9 ∨ i = 10 ∨ i = 11 ∨ i = 12 ∨ i = 13 ∨ i = 14 ∨ i = 15 ∨ i = 16 ∨ i = 17 := by omega
      clear him
      rcases hcase with rfl | rfl | rfl | rfl | rfl | rfl | rfl | rfl | rfl | rfl | rfl | rfl | rfl | rfl | rfl | rfl | rfl | rfl <;> (injection ho with ho; subst ho; intro listed a' w' hrd hf hdis hl)
      · have e7 : a'.eval (.tmp 3) = .pointer (some ⟨hb, 0, none⟩) := hl 3 (by decide)
        refine l_of rfl (v := .pointer (some ⟨hb, 0, none⟩)) (w' := w') (by clear hl hdis; revert e7; generalize a'.eval = ev; intro e7; go_simp) (putD (Fr.refl _ _) (no_foot (by decide)) rfl)
      · have e7 : a'.eval (.tmp 14) = .pointer (some ⟨hb, 0, none⟩) := hl 14 (by decide)
        have c := (HC4.out w' hf).1
        refine l_of rfl (v := .slice x0.A x0.l.length x0.c) (w' := w') (by clear hl hdis; revert e7; generalize a'.eval = ev; intro e7; go_simp) (putD (Fr.refl _ _) (no_foot (by decide)) rfl)
      · have e7 : a'.eval (.tmp 15) = .slice x0.A x0.l.length x0.c := hl 15 (by decide)
        refine l_of rfl (v := .int .i64 (x0.l.length : Nat)) (w' := w') (by clear hl hdis; revert e7; generalize a'.eval = ev; intro e7; go_simp) (putD (Fr.refl _ _) (no_foot (by decide)) rfl)
      · have e7 : a'.eval (.tmp 16) = .int .i64 (x0.l.length : Nat) := hl 16 (by decide)
        have hmk := Te.mk_ints x0.l.length (by omega) w'
        refine l_of rfl (v := .slice (some ⟨w'.heap.size, 0, none⟩) x0.l.length x0.l.length) (w' := w'.alloc (.cells (Array.replicate x0.l.length (Value.int .i64 0)) 3)) (by clear hl hdis; revert e7; generalize a'.eval = ev; intro e7; go_simp) (putD ((Fr.refl _ _).alloc _) (fun _ _ _ q hq => foot_new hq) ⟨_, rfl, Is.new _ _ _, (hz ▸ hf.size)⟩)
      · have e7 : a'.eval (.tmp 3) = .pointer (some ⟨hb, 0, none⟩) := hl 3 (by decide)
        refine l_of rfl (v := .pointer (some ⟨hb, 1, none⟩)) (w' := w') (by clear hl hdis; revert e7; generalize a'.eval = ev; intro e7; go_simp) (putD (Fr.refl _ _) (no_foot (by decide)) rfl)
      · have e7 : a'.eval (.tmp 18) = .pointer (some ⟨hb, 1, none⟩) := hl 18 (by decide)
        have c := (HC4.out w' hf).2.1
        refine l_of rfl (v := .slice x1.A x1.l.length x1.c) (w' := w') (by clear hl hdis; revert e7; generalize a'.eval = ev; intro e7; go_simp) (putD (Fr.refl _ _) (no_foot (by decide)) rfl)
      · have e7 : a'.eval (.tmp 19) = .slice x1.A x1.l.length x1.c := hl 19 (by decide)
        refine l_of rfl (v := .int .i64 (x1.l.length : Nat)) (w' := w') (by clear hl hdis; revert e7; generalize a'.eval = ev; intro e7; go_simp) (putD (Fr.refl _ _) (no_foot (by decide)) rfl)
      · have e7 : a'.eval (.tmp 20) = .int .i64 (x1.l.length : Nat) := hl 20 (by decide)
        have hmk := Te.mk_ints x1.l.length (by omega) w'
        refine l_of rfl (v := .slice (some ⟨w'.heap.size, 0, none⟩) x1.l.length x1.l.length) (w' := w'.alloc (.cells (Array.replicate x1.l.length (Value.int .i64 0)) 3)) (by clear hl hdis; revert e7; generalize a'.eval = ev; intro e7; go_simp) (putD ((Fr.refl _ _).alloc _) (fun _ _ _ q hq => foot_new hq) ⟨_, rfl, Is.new _ _ _, (hz ▸ hf.size)⟩)
      · have e7 : a'.eval (.tmp 3) = .pointer (some ⟨hb, 0, none⟩) := hl 3 (by decide)
        refine l_of rfl (v := .pointer (some ⟨hb, 2, none⟩)) (w' := w') (by clear hl hdis; revert e7; generalize a'.eval = ev; intro e7; go_simp) (putD (Fr.refl _ _) (no_foot (by decide)) rfl)
      · have e7 : a'.eval (.tmp 22) = .pointer (some ⟨hb, 2, none⟩) := hl 22 (by decide)
        have c := (HC4.out w' hf).2.2.1
        refine l_of rfl (v := .slice x2.A x2.l.length x2.c) (w' := w') (by clear hl hdis; revert e7; generalize a'.eval = ev; intro e7; go_simp) (putD (Fr.refl _ _) (no_foot (by decide)) rfl)
      · have e7 : a'.eval (.tmp 23) = .slice x2.A x2.l.length x2.c := hl 23 (by decide)
        refine l_of rfl (v := .int .i64 (x2.l.length : Nat)) (w' := w') (by clear hl hdis; revert e7; generalize a'.eval = ev; intro e7; go_simp) (putD (Fr.refl _ _) (no_foot (by decide)) rfl)
      · have e7 : a'.eval (.tmp 24) = .int .i64 (x2.l.length : Nat) := hl 24 (by decide)
        have hmk := Te.mk_ints x2.l.length (by omega) w'
        refine l_of rfl (v := .slice (some ⟨w'.heap.size, 0, none⟩) x2.l.length x2.l.length) (w' := w'.alloc (.cells (Array.replicate x2.l.length (Value.int .i64 0)) 3)) (by clear hl hdis; revert e7; generalize a'.eval = ev; intro e7; go_simp) (putD ((Fr.refl _ _).alloc _) (fun _ _ _ q hq => foot_new hq) ⟨_, rfl, Is.new _ _ _, (hz ▸ hf.size)⟩)
      · have e7 : a'.eval (.tmp 3) = .pointer (some ⟨hb, 0, none⟩) := hl 3 (by decide)
        refine l_of rfl (v := .pointer (some ⟨hb, 3, none⟩)) (w' := w') (by clear hl hdis; revert e7; generalize a'.eval = ev; intro e7; go_simp) (putD (Fr.refl _ _) (no_foot (by decide)) rfl)
      · have e7 : a'.eval (.tmp 26) = .pointer (some ⟨hb, 3, none⟩) := hl 26 (by decide)
        have c := (HC4.out w' hf).2.2.2
        refine l_of rfl (v := .slice x3.A x3.l.length x3.c) (w' := w') (by clear hl hdis; revert e7; generalize a'.eval = ev; intro e7; go_simp) (putD (Fr.refl _ _) (no_foot (by decide)) rfl)
      · have e7 : a'.eval (.tmp 27) = .slice x3.A x3.l.length x3.c := hl 27 (by decide)
        refine l_of rfl (v := .int .i64 (x3.l.length : Nat)) (w' := w') (by clear hl hdis; revert e7; generalize a'.eval = ev; intro e7; go_simp) (putD (Fr.refl _ _) (no_foot (by decide)) rfl)
      · have e7 : a'.eval (.tmp 28) = .int .i64 (x3.l.length : Nat) := hl 28 (by decide)
        have hmk := Te.mk_ints x3.l.length (by omega) w'
        refine l_of rfl (v := .slice (some ⟨w'.heap.size, 0, none⟩) x3.l.length x3.l.length) (w' := w'.alloc (.cells (Array.replicate x3.l.length (Value.int .i64 0)) 3)) (by clear hl hdis; revert e7; generalize a'.eval = ev; intro e7; go_simp) (putD ((Fr.refl _ _).alloc _) (fun _ _ _ q hq => foot_new hq) ⟨_, rfl, Is.new _ _ _, (hz ▸ hf.size)⟩)
      · obtain ⟨b0, e0, i0⟩ := (hl 17 (by decide) : (Sp.made _ _ _ _).p _ _)
        obtain ⟨b1, e1, i1⟩ := (hl 21 (by decide) : (Sp.made _ _ _ _).p _ _)
        obtain ⟨b2, e2, i2⟩ := (hl 25 (by decide) : (Sp.made _ _ _ _).p _ _)
        obtain ⟨b3, e3, i3⟩ := (hl 29 (by decide) : (Sp.made _ _ _ _).p _ _)
        have r0 : listed.getD 3 false = true := hrd ⟨3, .data⟩ (by simp) rfl
        have r1 : listed.getD 7 false = true := hrd ⟨7, .data⟩ (by simp) rfl
        have r2 : listed.getD 11 false = true := hrd ⟨11, .data⟩ (by simp) rfl
        have r3 : listed.getD 15 false = true := hrd ⟨15, .data⟩ (by simp) rfl
        have n1 : b0 ≠ b1 := fun e => hdis (3, 17) (by simp) (7, 21) (by simp) (by decide) r0 r1 b0 ⟨_, e0⟩ ⟨_, e ▸ e1⟩
        have n2 : b0 ≠ b2 := fun e => hdis (3, 17) (by simp) (11, 25) (by simp) (by decide) r0 r2 b0 ⟨_, e0⟩ ⟨_, e ▸ e2⟩
        have n3 : b0 ≠ b3 := fun e => hdis (3, 17) (by simp) (15, 29) (by simp) (by decide) r0 r3 b0 ⟨_, e0⟩ ⟨_, e ▸ e3⟩
        refine l_of rfl (v := .agg #[.slice (some ⟨b0, 0, none⟩) x0.l.length x0.l.length, .slice (some ⟨b1, 0, none⟩) x1.l.length x1.l.length, .slice (some ⟨b2, 0, none⟩) x2.l.length x2.l.length, .slice (some ⟨b3, 0, none⟩) x3.l.length x3.l.length]) (w' := w') (by clear hl hdis; revert e0 e1 e2 e3; generalize a'.eval = ev; intro e0 e1 e2 e3; go_simp) (putD (Fr.refl _ _) (no_foot (by decide)) ⟨b0, b1, b2, b3, rfl, i0, i1, i2, i3, n1, n2, n3⟩)
      · refine l_of rfl (v := .pointer (some ⟨w'.heap.size, 0, none⟩)) (w' := w'.alloc (.cells #[.slice none 0 0, .slice none 0 0, .slice none 0 0, .slice none 0 0] 65)) (by clear hl hdis; generalize a'.eval = ev; go_simp) (putD ((Fr.refl _ _).alloc _) (no_foot (by decide)) ⟨_, rfl, Is.new _ _ _, (hz ▸ hf.size)⟩)
    · intro val w' hf _ hT
      obtain ⟨sb, e8, ibx, hsb⟩ := (hT 9 (by decide) : (Sp.box _ _ _).p _ _)
      obtain ⟨b0, b1, b2, b3, e83, i0, i1, i2, i3, n1, n2, n3⟩ := (hT 30 (by decide) : (agg4d _ _ _ _ _).p _ _)
      simp only [laidL, List.foldl_cons, List.foldl_nil, e8, e83]
      clear hT
      generalize val 14 = v14; generalize val 15 = v15; generalize val 16 = v16; generalize val 17 = v17; generalize val 18 = v18; generalize val 19 = v19; generalize val 20 = v20; generalize val 21 = v21; generalize val 22 = v22; generalize val 23 = v23; generalize val 24 = v24; generalize val 25 = v25; generalize val 26 = v26; generalize val 27 = v27; generalize val 28 = v28; generalize val 29 = v29
      simp only [List.setIfInBounds_toArray, List.set_cons_succ, List.set_cons_zero]
      have m0 := Te.four_cells ibx
      have z0 := ibx.frozen 0
      have z1 := ibx.frozen 1
      have z2 := ibx.frozen 2
      have z3 := ibx.frozen 3
      have hsbn : ∀ b cs, Is w' b 3 cs → ¬ b = sb := fun b cs h => is_ne h ibx (by decide)
      have ist := ((((ibx.set 0 (.slice (some ⟨b0, 0, none⟩) x0.l.length x0.l.length)).set 1 (.slice (some ⟨b1, 0, none⟩) x1.l.length x1.l.length)).set 2 (.slice (some ⟨b2, 0, none⟩) x2.l.length x2.l.length)).set 3 (.slice (some ⟨b3, 0, none⟩) x3.l.length x3.l.length))
      have fst := ((((Fr.refl (fun q => q = sb) w').setCell (p := ⟨sb, 0, none⟩) (.inl rfl) (.slice (some ⟨b0, 0, none⟩) x0.l.length x0.l.length)).setCell (p := ⟨sb, 1, none⟩) (.inl rfl) (.slice (some ⟨b1, 0, none⟩) x1.l.length x1.l.length)).setCell (p := ⟨sb, 2, none⟩) (.inl rfl) (.slice (some ⟨b2, 0, none⟩) x2.l.length x2.l.length)).setCell (p := ⟨sb, 3, none⟩) (.inl rfl) (.slice (some ⟨b3, 0, none⟩) x3.l.length x3.l.length)
      refine tail1 rfl rfl rfl (w' := (((w'.setCell ⟨sb, 0, none⟩ (.slice (some ⟨b0, 0, none⟩) x0.l.length x0.l.length)).setCell ⟨sb, 1, none⟩ (.slice (some ⟨b1, 0, none⟩) x1.l.length x1.l.length)).setCell ⟨sb, 2, none⟩ (.slice (some ⟨b2, 0, none⟩) x2.l.length x2.l.length)).setCell ⟨sb, 3, none⟩ (.slice (some ⟨b3, 0, none⟩) x3.l.length x3.l.length)) (by go_simp) ?_
      go_wp2_with fail
      go_meet
      case rel =>
        exact ⟨sb, b0, b1, b2, b3, rfl, ist, i0.1.fr fst (hsbn _ _ i0.1), i1.1.fr fst (hsbn _ _ i1.1), i2.1.fr fst (hsbn _ _ i2.1), i3.1.fr fst (hsbn _ _ i3.1), n1, n2, n3, Nat.le_trans hz0 i0.2, hsb, ((Fr.refl (fun _ => False) w).drew.trans hf fun _ _ h => h).trans fst fun q hq e => by omega⟩
  case rest =>
    clear HC4
    obtain ⟨sb, b0, b1, b2, b3, rfl, ist, i0, i1, i2, i3, n1, n2, n3, hb0, hsb, fr⟩ := hcut
    have m0 := Te.four_cells ist
    have c0 : wc.cell? ⟨b0, 0, none⟩ = some (.int .i64 0) := (i0.cell 0).trans (by simp [l0])
    have y0 := i0.frozen 0
    have hl0 : (0 : Int) < (x0.l.length : Int) := by omega
    have nsb := is_ne ist i0 (by decide)
    have j0 := i0.set 0 (.int .i64 occ)
    have f0 := (Fr.refl (fun q => q = b0) wc).setCell (p := ⟨b0, 0, none⟩) (.inl rfl) (.int .i64 occ)
    have e0 : (Array.replicate x0.l.length (Value.int .i64 0)).setIfInBounds 0 (.int .i64 occ) = (((List.replicate x0.l.length (0 : Int)).set 0 occ).map (Value.int .i64)).toArray := by
      rw [rep_list, List.map_set, List.setIfInBounds_toArray]
    rw [e0] at j0
    have HIX := Lib.hid ((HIH.out.fr fr id).fr f0 fun e => by have := HIH.out.lt; omega)
    have HOX : Hid ((wc.setCell ⟨b0, 0, none⟩ (.int .i64 occ)).cell? ⟨ob, 0, none⟩ = some (.int .i64 (j : Int))) := Lib.hid ((f0.cell (p := ⟨ob, 0, none⟩) (Nat.lt_of_lt_of_le hob fr.size) (fun (e : ob = b0) => by omega)).trans ((fr.cell (p := ⟨ob, 0, none⟩) hob id).trans HO.out))
    have HSX := Lib.hid (ist.fr f0 nsb)
    have hst : Hid ((Te.Sta.mk ⟨some ⟨b0, 0, none⟩, (List.replicate x0.l.length (0 : Int)).set 0 occ, x0.l.length⟩ ⟨some ⟨b1, 0, none⟩, List.replicate x1.l.length 0, x1.l.length⟩ ⟨some ⟨b2, 0, none⟩, List.replicate x2.l.length 0, x2.l.length⟩ ⟨some ⟨b3, 0, none⟩, List.replicate x3.l.length 0, x3.l.length⟩).Ok (wc.setCell ⟨b0, 0, none⟩ (.int .i64 occ))) := Lib.hid
      ⟨is_list j0 (by simp) (by omega), is_list (by rw [← rep_list]; exact i1.fr f0 fun e => n1 e.symm) (by simp) (by omega), is_list (by rw [← rep_list]; exact i2.fr f0 fun e => n2 e.symm) (by simp) (by omega), is_list (by rw [← rep_list]; exact i3.fr f0 fun e => n3 e.symm) (by simp) (by omega)⟩
    have HF := Lib.hid (fr.trans f0 fun q hq e => by omega)
    clear i1 i2 i3 j0 f0 e0 ist fr n1 n2 n3 nsb
    go_upto_region 3 with fail
    clear m0 c0 y0
    generalize wc.setCell ⟨b0, 0, none⟩ (.int .i64 occ) = w3 at *
    have m3 := Te.four_cells HIX.out
    have m4 := Te.four_cells HSX.out
    have KS := Te.refstatus_any (h := (Te.Sta.mk x0 x1 x2 x3).sh) hst.out
    rw [show (Te.Sta.mk ⟨some ⟨b0, 0, none⟩, (List.replicate x0.l.length (0 : Int)).set 0 occ, x0.l.length⟩ ⟨some ⟨b1, 0, none⟩, List.replicate x1.l.length 0, x1.l.length⟩ ⟨some ⟨b2, 0, none⟩, List.replicate x2.l.length 0, x2.l.length⟩ ⟨some ⟨b3, 0, none⟩, List.replicate x3.l.length 0, x3.l.length⟩).st = tellS (Te.Sta.mk x0 x1 x2 x3).st.hs occ from rfl, show (Te.Sta.mk x0 x1 x2 x3).sh.hs = (Te.Sta.mk x0 x1 x2 x3).st.hs from rfl] at KS
    simp only [Te.Sh.val, Te.Sta.sh, Te.Sta.val, List.length_set, List.length_replicate] at KS
    obtain ⟨P, hP⟩ : ∃ P, P = Te.stL (Te.Sta.mk x0 x1 x2 x3).st.hs (tellS (Te.Sta.mk x0 x1 x2 x3).st.hs occ) := ⟨_, rfl⟩
    rw [← hP] at KS
    have HP := Lib.hid hP
    clear hP
    obtain ⟨p, pe⟩ := P
    simp only at KS
    go_wp2_with fail
    refine KS.mono ?_
    rintro e w4 ⟨rfl, f4⟩
    have KM := rmake_any (j : Int) n s ⟨p.toArray⟩ w4
    rw [show bytesOf ⟨p.toArray⟩ = p from rfl] at KM
    have o4 := (f4.cell (p := ⟨ob, 0, none⟩) (World.block_lt_of_cell? _ _ HOX.out) id).trans HOX.out
    have HF4 := Lib.hid (HF.out.trans f4 fun _ _ h => h)
    clear KS f4 m3 m4
    go_wp2_with fail
    refine KM.mono ?_
    rintro e w5 ⟨rfl, f5⟩
    clear KM o4
    go_wp2_with fail
    go_ret
    rw [← HP.out]
    exact ⟨rfl, HF4.out.trans f5 fun _ _ h => h⟩
end Go.Proofs.Ytfmhfngilimhjaa.Im

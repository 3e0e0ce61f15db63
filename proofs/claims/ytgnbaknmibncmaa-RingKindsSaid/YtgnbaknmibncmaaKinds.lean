/- The walk of RingKinds: queues of numbers, of texts and of pairs do the same to the same row of puts and takes. -/
import Derived.Test.YtgnbaknmibncmaaZero
import Derived.Test.YtgnbaknmibncmaaLives
import Derived.Test.YtgnbaknmibncmaaKeeps
import Derived.Test.YtgnbaknmibncmaaSlots2
import Derived.Test.YtgnbaknmibncmaaMod
namespace Go.Proofs.Ytgnbaknmibncmaa
open Go.RowKit

def QI (H : Nat) (w : World) (b k m : Nat) (lost : Int) : Prop := ∃ A c, Que 60 3 1 w b k A c m (reps 1 (.int .i64 0) m) lost ∧ ∀ j, blk A = some j → H ≤ j
def QS (H : Nat) (w : World) (b k m : Nat) (lost : Int) : Prop := ∃ A c, Que 63 9 1 w b k A c m (reps 1 (.string .empty) m) lost ∧ ∀ j, blk A = some j → H ≤ j
def QP (H : Nat) (w : World) (b k m : Nat) (lost : Int) : Prop := ∃ A c, Que 66 54 2 w b k A c m (reps 2 (.int .i64 0) m) lost ∧ ∀ j, blk A = some j → H ≤ j

/-- a queue of empty things ahead of a put, and behind it -/
def QX (t e : TypeId) (sz : Nat) (u : Value) (H b k : Nat) (A0 : Option Addr) (c0 m m2 : Nat) (lost lost2 : Int) : Bool → World → Prop
  | false, w => Que t e sz w b k A0 c0 m (reps sz u m) lost
  | true, w => ∃ A c, Que t e sz w b k A c m2 (reps sz u m2) lost2 ∧ ∀ j, blk A = some j → H ≤ j
section
variable {t e : TypeId} {sz : Nat} {u : Value} {H b k : Nat} {A0 : Option Addr} {c0 m m2 : Nat} {lost lost2 : Int} {w w' : World}
theorem qx_none : ∀ {x : Bool}, QX t e sz u H b k A0 c0 m m2 lost lost2 x w → Fr (fun _ => False) w w' → QX t e sz u H b k A0 c0 m m2 lost lost2 x w'
  | false, h, f => que_none h f
  | true, ⟨A, c, h, ha⟩, f => ⟨A, c, que_none h f, ha⟩
theorem qx_apart {t2 e2 : TypeId} {s2 b2 k2 c2 n2 : Nat} {A2 : Option Addr} {xs2 : List Value} {l2 : Int} (h2 : Que t2 e2 s2 w b2 k2 A2 c2 n2 xs2 l2) (f : Fr (fun j => j = b2 ∨ blk A2 = some j) w w') (hd : t ≠ t2 ∧ e ≠ e2 ∧ e ≠ t2 ∧ e2 ≠ t) :
    ∀ {x : Bool}, QX t e sz u H b k A0 c0 m m2 lost lost2 x w → QX t e sz u H b k A0 c0 m m2 lost lost2 x w'
  | false, h => que_apart h h2 f hd
  | true, ⟨A, c, h, ha⟩ => ⟨A, c, que_apart h h2 f hd, ha⟩
end
/-- the part that hangs on which puts have been -/
def parts3 (A B C : Bool → World → Prop) (listed : Array Bool) (w : World) : Prop := A (listed.getD 3 false) w ∧ B (listed.getD 7 false) w ∧ C (listed.getD 11 false) w
theorem parts3_keep {A B C : Bool → World → Prop} {listed : Array Bool} {w w' : World} {i : Nat} (h : parts3 A B C listed w) (i1 : i ≠ 3) (i2 : i ≠ 7) (i3 : i ≠ 11) (hA : ∀ x, A x w → A x w') (hB : ∀ x, B x w → B x w') (hC : ∀ x, C x w → C x w') : parts3 A B C (listed.setIfInBounds i true) w' := by
  unfold parts3 at h ⊢
  rw [getD_set_ne false i1, getD_set_ne false i2, getD_set_ne false i3]
  exact ⟨hA _ h.1, hB _ h.2.1, hC _ h.2.2⟩

theorem enters_putI (args : Array Value) (w : World) : (callFunc 12 args).run Try.prog w = .ok (.enter 12 args) w := by
  have h := Try.func12
  go_simp
theorem enters_putS (args : Array Value) (w : World) : (callFunc 20 args).run Try.prog w = .ok (.enter 20 args) w := by
  have h := Try.func20
  go_simp
theorem enters_putP (args : Array Value) (w : World) : (callFunc 27 args).run Try.prog w = .ok (.enter 27 args) w := by
  have h := Try.func27
  go_simp

theorem pair_eq (W : World) : (Op.equalIn 10000 54 (.agg #[.int .i64 0, .int .i64 0]) (.agg #[.int .i64 0, .int .i64 0])).run Try.prog W = .ok true W := by kernel_rfl

set_option maxRecDepth 100000 in
set_option maxHeartbeats 4000000 in
theorem kinds_walk (a : Int) (ha1 : -9223372036854775808 ≤ a) (ha2 : a ≤ 9223372036854775807) (A2 : Option Addr) (c2 : Nat) (l : List Int) (hl : l.length * 8 ≤ 140737488351232) (w : World) (h : Rd w A2 (cellsI l)) :
    Calls Try.prog 6 #[.int .i64 a, .slice A2 l.length c2] w fun e w' => e = .returned (.bool true) ∧ Below w.heap.size w w' := by
  have KL := lives_any w
  have KI := fun w => makeI a w ha1 ha2
  have KS := fun w => makeS a w ha1 ha2
  have KP := fun w => makeP a w ha1 ha2
  have hlo := roomN_lo a
  have hhi := roomN_hi a
  generalize roomN a = k at *
  go_enter Try.func6, Try.ntmps6
  go_wp2_with fail
  refine KL.mono ?_
  clear KL
  rintro e w1 ⟨rfl, f1⟩
  go_wp2_with fail
  refine (KI _).mono ?_
  clear KI
  rintro e w2 ⟨rfl, qa, f2, z2⟩
  go_wp2_with fail
  refine (KS _).mono ?_
  clear KS
  rintro e w3 ⟨rfl, qb, f3, z3⟩
  go_wp2_with fail
  refine (KP _).mono ?_
  clear KP
  rintro e w4 ⟨rfl, qc, f4, z4⟩
  have qa := que_none (que_none qa f3) f4
  have qb := que_none qb f4
  have fr := own_fr0 (own_fr0 (own_fr0 f1 f2) f3) f4
  have hba : w.heap.size ≤ w1.heap.size := f1.size
  have hbb : w.heap.size ≤ w2.heap.size := Nat.le_trans hba (Nat.le_of_lt z2)
  have hbc : w.heap.size ≤ w3.heap.size := Nat.le_trans hbb (Nat.le_of_lt z3)
  clear f1 f2 f3 f4 z2 z3 z4
  generalize w1.heap.size = ba at *
  generalize w2.heap.size = bb at *
  generalize w3.heap.size = bc at *
  have QA : QI w.heap.size w4 ba k 0 0 := ⟨none, 0, by rw [reps_zero]; exact qa, fun _ h => by cases h⟩
  have QB : QS w.heap.size w4 bb k 0 0 := ⟨none, 0, by rw [reps_zero]; exact qb, fun _ h => by cases h⟩
  have QC : QP w.heap.size w4 bc k 0 0 := ⟨none, 0, by rw [reps_zero]; exact qc, fun _ h => by cases h⟩
  clear qa qb qc
  go_wp2_with fail
  go_loopw [30] (fun i wr => ∃ (j m : Nat) (lost : Int), j ≤ l.length ∧ i = .int .i64 (j : Nat) ∧ QI w.heap.size wr ba k m lost ∧ QS w.heap.size wr bb k m lost ∧ QP w.heap.size wr bc k m lost ∧ Fr (fun _ => False) w wr) (fun i _ => l.length - (intOf i).toNat)
  case atStart => exact ⟨0, 0, 0, Nat.zero_le _, rfl, QA, QB, QC, fr⟩
  case round =>
    clear QA QB QC fr
    obtain ⟨j, m, lost, hj, rfl, ⟨A, ca, qa, oa⟩, ⟨B, cb, qb, ob⟩, ⟨C, cc, qc, oc⟩, fr⟩ := hrel
    by_cases hlt : j < l.length
    · obtain ⟨g, o, rfl, hg, hcl⟩ := h (by rw [cellsI_length]; omega)
      have hx : (cellsI l)[j]? = some (.int .i64 l[j]) := by unfold cellsI; rw [List.getElem?_map, List.getElem?_eq_getElem hlt]; rfl
      have hx2 : wr.cell? ⟨g, o + j, none⟩ = some (.int .i64 l[j]) := (fr.cell (p := ⟨g, o + j, none⟩) hg id).trans (hcl j _ hx)
      generalize l[j] = x at *
      have HH := Lib.hid h
      clear h hx hcl
      by_cases h3 : x.tmod 3 = 0
      · have hd3 : (x.tmod 3 == 0) = true := by simpa using h3
        clear h3
        rcases Nat.eq_zero_or_pos m with hm | hm
        · subst hm
          go_wp2_with fail
          refine (noneI qa).mono ?_
          rintro e w5 ⟨rfl, rfl⟩
          go_wp2_with fail
          refine (noneS qb).mono ?_
          rintro e w5 ⟨rfl, rfl⟩
          go_wp2_with fail
          refine (noneP qc).mono ?_
          rintro e w5 ⟨rfl, f5⟩
          have hpe := pair_eq
          go_wp2_with fail
          have f6 := f5.alloc (.cells #[.int .i64 0, .int .i64 0] 54)
          go_roundw
          case rel => exact ⟨j + 1, 0, lost, by omega, by go_num, ⟨A, ca, que_none qa f6, oa⟩, ⟨B, cb, que_none qb f6, ob⟩, ⟨C, cc, que_none qc f6, oc⟩, own_fr0 fr f6⟩
          case measure => simp [intOf]; omega
        · obtain ⟨r, hr⟩ : ∃ r, m = r + 1 := ⟨m - 1, by omega⟩
          subst hr
          clear hm
          rw [reps_succ1] at qa qb
          rw [reps_succ2] at qc
          go_wp2_with fail
          refine (takeI qa).mono ?_
          rintro e w5 ⟨rfl, qa5, fa⟩
          have qb := que_apart qb qa fa (by decide)
          have qc := que_apart qc qa fa (by decide)
          have fr := own_que fr fa hba oa
          clear fa qa
          go_wp2_with fail
          refine (takeS qb).mono ?_
          rintro e w6 ⟨rfl, qb6, fb⟩
          have qa := que_apart qa5 qb fb (by decide)
          have qc := que_apart qc qb fb (by decide)
          have fr := own_que fr fb hbb ob
          clear fb qb qa5
          go_wp2_with fail
          refine (takeP qc).mono ?_
          rintro e w7 ⟨rfl, qc7, fc⟩
          have qa := que_apart qa qc fc (by decide)
          have qb := que_apart qb6 qc fc (by decide)
          have fr := own_que fr fc hbc oc
          clear fc qc qb6
          have f6 := (Fr.refl (fun _ => False) w7).alloc (.cells #[.int .i64 0, .int .i64 0] 54)
          go_wp2_with fail
          go_roundw
          case rel => exact ⟨j + 1, r, lost, by omega, by go_num, ⟨A, ca, que_none qa f6, oa⟩, ⟨B, cb, que_none qb f6, ob⟩, ⟨C, cc, que_none qc7 f6, oc⟩, own_fr0 fr f6⟩
          case measure => simp [intOf]; omega
      · have hd3 : (x.tmod 3 == 0) = false := by simpa using h3
        obtain ⟨p, hp, hp1⟩ := umod x 5 (by decide) (by decide)
        rw [show ((5 : Nat) : Int) = 5 from rfl] at hp
        clear h3
        go_wp2_with fail
        simp only [hp]
        clear hp hd3 hx2
        obtain ⟨f, d, hfe, hde⟩ : ∃ f d, f = min p (k - m) ∧ d = p - f := ⟨_, _, rfl, rfl⟩
        let F : Nat → Prop := fun j => (j = ba ∨ blk A = some j) ∨ (j = bb ∨ blk B = some j) ∨ (j = bc ∨ blk C = some j)
        have hFl : ∀ j, F j → j < wr.heap.size := by
          rintro j ((e | e) | (e | e) | (e | e))
          · rw [e]; exact qa.is.lt
          · exact wide_lt qa.row j (by rw [Row.own]; exact e)
          · rw [e]; exact qb.is.lt
          · exact wide_lt qb.row j (by rw [Row.own]; exact e)
          · rw [e]; exact qc.is.lt
          · exact wide_lt qc.row j (by rw [Row.own]; exact e)
        have hFo : ∀ j, F j → w.heap.size ≤ j := by
          rintro j ((e | e) | (e | e) | (e | e))
          · omega
          · exact oa j e
          · omega
          · exact ob j e
          · omega
          · exact oc j e
        refine region_slots3 F [74, 75, 76, 77, 78, 79, 80, 81, 82, 83, 84, 85, 17, 18, 19]
          [(74, .val (.pointer (some ⟨ba, 0, none⟩))), (75, .val (.int .i64 (p : Nat))), (76, .lit 3 p (reps 1 (.int .i64 0) p)), (77, .val (.int .i64 (d : Nat))),
           (78, .val (.pointer (some ⟨bb, 0, none⟩))), (79, .val (.int .i64 (p : Nat))), (80, .lit 9 p (reps 1 (.string .empty) p)), (81, .val (.int .i64 (d : Nat))),
           (82, .val (.pointer (some ⟨bc, 0, none⟩))), (83, .val (.int .i64 (p : Nat))), (84, .lit 54 p (reps 2 (.int .i64 0) p)), (85, .val (.int .i64 (d : Nat))),
           (17, .val (.int .i64 (d : Nat))), (18, .val (.int .i64 (d : Nat))), (19, .val (.int .i64 (d : Nat)))]
          (parts3 (QX 60 3 1 (.int .i64 0) w.heap.size ba k A ca m (m + f) lost (wrap64 (lost + (d : Nat)))) (QX 63 9 1 (.string .empty) w.heap.size bb k B cb m (m + f) lost (wrap64 (lost + (d : Nat)))) (QX 66 54 2 (.int .i64 0) w.heap.size bc k C cc m (m + f) lost (wrap64 (lost + (d : Nat)))))
          (by kernel_rfl) (by kernel_rfl) (by kernel_rfl) (by kernel_rfl) ?_ ?_ ?_
        · exact ⟨que_none qa (Fr.refl _ _).drew, que_none qb (Fr.refl _ _).drew, que_none qc (Fr.refl _ _).drew⟩
        · intro i o ho
          have hlt : i < 15 := (Array.getElem?_eq_some_iff.1 ho).1
          have hcase : i = 0 ∨ i = 1 ∨ i = 2 ∨ i = 3 ∨ i = 4 ∨ i = 5 ∨ i = 6 ∨ i = 7 ∨ i = 8 ∨ i = 9 ∨ i = 10 ∨ i = 11 ∨ i = 12 ∨ i = 13 ∨ i = 14 := by omega
          clear hlt
          rcases hcase with rfl | rfl | rfl | rfl | rfl | rfl | rfl | rfl | rfl | rfl | rfl | rfl | rfl | rfl | rfl <;> (injection ho with ho; subst ho; intro listed a' w' hs hd hi hf hl)
          · exact z_move (putz (Fr.refl _ _) (parts3_keep hi (by decide) (by decide) (by decide) (fun _ h => h) (fun _ h => h) (fun _ h => h)) (hl 5 (by decide)))
          · exact z_move (putz (Fr.refl _ _) (parts3_keep hi (by decide) (by decide) (by decide) (fun _ h => h) (fun _ h => h) (fun _ h => h)) (hl 16 (by decide)))
          · have e1 : a'.eval (.tmp 75) = .int .i64 (p : Nat) := hl 75 (by decide)
            have f0 := (Fr.refl (fun _ => False) w').alloc (.cells (reps 1 (.int .i64 0) p).toArray 3)
            refine z_make e1 e1 (mkI p (by omega) w') (putz (f0.mono fun _ _ h => h.elim) (parts3_keep hi (by decide) (by decide) (by decide) (fun _ h => qx_none h f0) (fun _ h => qx_none h f0) (fun _ h => qx_none h f0)) ⟨_, rfl, Is.new _ _ _, fun h => ?_⟩)
            have := hFl _ h
            have := hf.size
            simp at this
            omega
          · have e1 : a'.eval (.tmp 74) = .pointer (some ⟨ba, 0, none⟩) := hl 74 (by decide)
            obtain ⟨g2, e2, hg2, _⟩ : ∃ g2 : Nat, a'.eval (.tmp 76) = .slice (some ⟨g2, 0, none⟩) p p ∧ Is w' g2 3 (reps 1 (.int .i64 0) p).toArray ∧ ¬ F g2 := hl 76 (by decide)
            have hq := hi.1
            rw [listed_no hd] at hq
            refine z_call2 enters_putI e1 e2 ((putzI (f := f) (d := d) hq hg2 (by omega) hfe hde).mono fun e w5 ⟨he, A5, c5, q5, f5, a5⟩ => ⟨_, he, putz (f5.mono fun j _ h => .inl h) ?_ rfl⟩)
            unfold parts3
            rw [listed_yes (by rw [hs]; decide), getD_set_ne (i := 3) (j := 7) false (by decide), getD_set_ne (i := 3) (j := 11) false (by decide)]
            refine ⟨⟨A5, c5, q5, fun j hj => ?_⟩, qx_apart hq f5 (by decide) (hi.2.1), qx_apart hq f5 (by decide) (hi.2.2)⟩
            rcases a5 with h | h
            · exact oa j (h ▸ hj)
            · exact Nat.le_trans (Nat.le_trans fr.size hf.size) (h j hj)
          · exact z_move (putz (Fr.refl _ _) (parts3_keep hi (by decide) (by decide) (by decide) (fun _ h => h) (fun _ h => h) (fun _ h => h)) (hl 6 (by decide)))
          · exact z_move (putz (Fr.refl _ _) (parts3_keep hi (by decide) (by decide) (by decide) (fun _ h => h) (fun _ h => h) (fun _ h => h)) (hl 16 (by decide)))
          · have e1 : a'.eval (.tmp 79) = .int .i64 (p : Nat) := hl 79 (by decide)
            have f0 := (Fr.refl (fun _ => False) w').alloc (.cells (reps 1 (.string .empty) p).toArray 9)
            refine z_make e1 e1 (mkS p (by omega) w') (putz (f0.mono fun _ _ h => h.elim) (parts3_keep hi (by decide) (by decide) (by decide) (fun _ h => qx_none h f0) (fun _ h => qx_none h f0) (fun _ h => qx_none h f0)) ⟨_, rfl, Is.new _ _ _, fun h => ?_⟩)
            have := hFl _ h
            have := hf.size
            simp at this
            omega
          · have e1 : a'.eval (.tmp 78) = .pointer (some ⟨bb, 0, none⟩) := hl 78 (by decide)
            obtain ⟨g2, e2, hg2, _⟩ : ∃ g2 : Nat, a'.eval (.tmp 80) = .slice (some ⟨g2, 0, none⟩) p p ∧ Is w' g2 9 (reps 1 (.string .empty) p).toArray ∧ ¬ F g2 := hl 80 (by decide)
            have hq := hi.2.1
            rw [listed_no hd] at hq
            refine z_call2 enters_putS e1 e2 ((putzS (f := f) (d := d) hq hg2 (by omega) hfe hde).mono fun e w5 ⟨he, A5, c5, q5, f5, a5⟩ => ⟨_, he, putz (f5.mono fun j _ h => .inr (.inl h)) ?_ rfl⟩)
            unfold parts3
            rw [listed_yes (by rw [hs]; decide), getD_set_ne (i := 7) (j := 3) false (by decide), getD_set_ne (i := 7) (j := 11) false (by decide)]
            refine ⟨qx_apart hq f5 (by decide) (hi.1), ⟨A5, c5, q5, fun j hj => ?_⟩, qx_apart hq f5 (by decide) (hi.2.2)⟩
            rcases a5 with h | h
            · exact ob j (h ▸ hj)
            · exact Nat.le_trans (Nat.le_trans fr.size hf.size) (h j hj)
          · exact z_move (putz (Fr.refl _ _) (parts3_keep hi (by decide) (by decide) (by decide) (fun _ h => h) (fun _ h => h) (fun _ h => h)) (hl 7 (by decide)))
          · exact z_move (putz (Fr.refl _ _) (parts3_keep hi (by decide) (by decide) (by decide) (fun _ h => h) (fun _ h => h) (fun _ h => h)) (hl 16 (by decide)))
          · have e1 : a'.eval (.tmp 83) = .int .i64 (p : Nat) := hl 83 (by decide)
            have f0 := (Fr.refl (fun _ => False) w').alloc (.cells (reps 2 (.int .i64 0) p).toArray 54)
            refine z_make e1 e1 (mkP p (by omega) w') (putz (f0.mono fun _ _ h => h.elim) (parts3_keep hi (by decide) (by decide) (by decide) (fun _ h => qx_none h f0) (fun _ h => qx_none h f0) (fun _ h => qx_none h f0)) ⟨_, rfl, Is.new _ _ _, fun h => ?_⟩)
            have := hFl _ h
            have := hf.size
            simp at this
            omega
          · have e1 : a'.eval (.tmp 82) = .pointer (some ⟨bc, 0, none⟩) := hl 82 (by decide)
            obtain ⟨g2, e2, hg2, _⟩ : ∃ g2 : Nat, a'.eval (.tmp 84) = .slice (some ⟨g2, 0, none⟩) p p ∧ Is w' g2 54 (reps 2 (.int .i64 0) p).toArray ∧ ¬ F g2 := hl 84 (by decide)
            have hq := hi.2.2
            rw [listed_no hd] at hq
            refine z_call2 enters_putP e1 e2 ((putzP (f := f) (d := d) hq hg2 (by omega) hfe hde).mono fun e w5 ⟨he, A5, c5, q5, f5, a5⟩ => ⟨_, he, putz (f5.mono fun j _ h => .inr (.inr h)) ?_ rfl⟩)
            unfold parts3
            rw [listed_yes (by rw [hs]; decide), getD_set_ne (i := 11) (j := 3) false (by decide), getD_set_ne (i := 11) (j := 7) false (by decide)]
            refine ⟨qx_apart hq f5 (by decide) (hi.1), qx_apart hq f5 (by decide) (hi.2.1), ⟨A5, c5, q5, fun j hj => ?_⟩⟩
            rcases a5 with h | h
            · exact oc j (h ▸ hj)
            · exact Nat.le_trans (Nat.le_trans fr.size hf.size) (h j hj)
          · exact z_assign (putz (Fr.refl _ _) (parts3_keep hi (by decide) (by decide) (by decide) (fun _ h => h) (fun _ h => h) (fun _ h => h)) (hl 77 (by decide)))
          · exact z_assign (putz (Fr.refl _ _) (parts3_keep hi (by decide) (by decide) (by decide) (fun _ h => h) (fun _ h => h) (fun _ h => h)) (hl 81 (by decide)))
          · exact z_assign (putz (Fr.refl _ _) (parts3_keep hi (by decide) (by decide) (by decide) (fun _ h => h) (fun _ h => h) (fun _ h => h)) (hl 85 (by decide)))
        · intro listed val w' hall hi hf hT
          have e17 : val 17 = .int .i64 (d : Nat) := hT 17 (by decide)
          have e18 : val 18 = .int .i64 (d : Nat) := hT 18 (by decide)
          have e19 : val 19 = .int .i64 (d : Nat) := hT 19 (by decide)
          unfold parts3 at hi
          rw [hall 3 (by decide), hall 7 (by decide), hall 11 (by decide)] at hi
          obtain ⟨⟨A5, c5, qa5, oa5⟩, ⟨B5, c6, qb5, ob5⟩, ⟨C5, c7, qc5, oc5⟩⟩ := hi
          have fr5 : Fr (fun _ => False) w w' := Fr.ofBelow ((fr.drew.mono (S' := fun j => w.heap.size ≤ j) fun _ _ h => h.elim).trans (hf.mono (S' := fun j => w.heap.size ≤ j) fun j _ hj => hFo j hj) fun _ _ h => h).toBelow
          simp only [laid, List.foldl_cons, List.foldl_nil, e17, e18, e19]
          clear hT hall hf e17 e18 e19 qa qb qc hFl hFo
          generalize val 74 = v74
          generalize val 75 = v75
          generalize val 76 = v76
          generalize val 77 = v77
          generalize val 78 = v78
          generalize val 79 = v79
          generalize val 80 = v80
          generalize val 81 = v81
          generalize val 82 = v82
          generalize val 83 = v83
          generalize val 84 = v84
          generalize val 85 = v85
          simp only [List.setIfInBounds_toArray, List.set_cons_succ, List.set_cons_zero]
          clear hfe hde
          generalize wrap64 (lost + (d : Nat)) = lost5 at *
          by_cases h5 : 5000 < j
          · have hd5 : decide ((5000 : Int) < (j : Int)) = true := by rw [decide_eq_true_eq]; omega
            go_wp2_with (first | (go_at_call 16; refine (lenI qa5).mono ?_; rintro e w7 ⟨rfl, rfl⟩) | (go_at_call 22; refine (lenS qb5).mono ?_; rintro e w7 ⟨rfl, rfl⟩) | (go_at_call 28; refine (lenP qc5).mono ?_; rintro e w7 ⟨rfl, rfl⟩) | (go_at_call 18; refine (lostI qa5).mono ?_; rintro e w7 ⟨rfl, rfl⟩) | (go_at_call 23; refine (lostS qb5).mono ?_; rintro e w7 ⟨rfl, rfl⟩))
            go_ret
            exact ⟨rfl, fr5.toBelow0⟩
          · have hd5 : decide ((5000 : Int) < (j : Int)) = false := by rw [decide_eq_false_iff_not]; omega
            go_wp2_with (first | (go_at_call 16; refine (lenI qa5).mono ?_; rintro e w7 ⟨rfl, rfl⟩) | (go_at_call 22; refine (lenS qb5).mono ?_; rintro e w7 ⟨rfl, rfl⟩) | (go_at_call 28; refine (lenP qc5).mono ?_; rintro e w7 ⟨rfl, rfl⟩) | (go_at_call 18; refine (lostI qa5).mono ?_; rintro e w7 ⟨rfl, rfl⟩) | (go_at_call 23; refine (lostS qb5).mono ?_; rintro e w7 ⟨rfl, rfl⟩))
            go_roundw
            case rel => exact ⟨j + 1, m + f, lost5, by omega, by go_num, ⟨A5, c5, qa5, oa5⟩, ⟨B5, c6, qb5, ob5⟩, ⟨C5, c7, qc5, oc5⟩, fr5⟩
            case measure => simp [intOf]; omega
    · go_wp2_with fail
      refine (lostI qa).mono ?_
      rintro e w5 ⟨rfl, rfl⟩
      go_wp2_with fail
      refine (lostP qc).mono ?_
      rintro e w5 ⟨rfl, rfl⟩
      go_wp2
      go_ret
      exact ⟨rfl, fr.toBelow0⟩
end Go.Proofs.Ytgnbaknmibncmaa

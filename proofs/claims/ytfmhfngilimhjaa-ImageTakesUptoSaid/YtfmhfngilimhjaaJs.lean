/- The document's image: Lost, said, look. -/
import Derived.Test.YtfmhfngilimhjaaJq
import Derived.Test.YtfmhfngilimhjaaJlate
import Derived.Test.YtfmhfngilimhjaaImlost
namespace Go.Proofs.Ytfmhfngilimhjaa.Im
open Go.RowKit Li

def lostR (ks : List Kr) : Int := (ks.map fun k => k.r.lost).sum
theorem lostR_take {ks : List Kr} {i : Nat} (h : i < ks.length) : lostR (ks.take (i + 1)) = lostR (ks.take i) + ks[i].r.lost := by
  unfold lostR
  rw [List.take_succ_eq_append_getElem h, List.map_append, List.sum_append]
  simp
theorem lostR_bd : ∀ ks : List Kr, (∀ k ∈ ks, 0 ≤ k.r.lost ∧ k.r.lost ≤ 1099511627776) → 0 ≤ lostR ks ∧ lostR ks ≤ (ks.length : Int) * 1099511627776
  | [], _ => by simp [lostR]
  | k :: ks, h => by
    have ih := lostR_bd ks fun x hx => h x (by simp [hx])
    have hk := h k (by simp)
    have e : lostR (k :: ks) = k.r.lost + lostR ks := by simp [lostR]
    rw [e, List.length_cons]
    omega
section
variable {w : World} {base n : Nat} {p : Jp} {C : Te.Cf} {ks : List Kr}
set_option maxHeartbeats 1000000 in
theorem jlost_any (h : Jm w base n p C ks) (hn : n ≤ 17592186044416) (hl : ∀ k ∈ ks, 0 ≤ k.r.lost ∧ k.r.lost ≤ 1099511627776) :
    Calls Try.prog 20 #[.pointer (some ⟨p.b, 0, none⟩)] w fun e w' => e = .returned (.int .i64 (lostR ks)) ∧ w' = w := by
  obtain ⟨_, _, _, _, _, _, _, _, _, p9, _, _⟩ := twelve h.is
  have h4 := h.h4
  have HJ := Lib.hid h
  have HL := Lib.hid hl
  clear h hl
  go_enter Try.func20, Try.ntmps20
  go_wp2_with fail
  go_loopw [3, 11] (fun v3 v11 wr => wr = w ∧ ∃ i : Nat, i ≤ 4 ∧ v11 = .int .i64 (i : Nat) ∧ v3 = .int .i64 (lostR (ks.take i))) (fun _ v _ => 4 - (intOf v).toNat)
  case atStart => exact ⟨rfl, 0, by decide, rfl, rfl⟩
  case round =>
    obtain ⟨rfl, i, hi, rfl, rfl⟩ := hrel
    by_cases hlt : i < 4
    · have hii : (i : Int) < 4 := by omega
      have hik : i < ks.length := by omega
      have c0 := HJ.out.rcell hik
      have KL := rlostr_any (HJ.out.mx _ (List.getElem_mem hik)).mv hn
      have e := lostR_take hik
      have b1 := lostR_bd (ks.take i) fun k hk => HL.out k (List.mem_of_mem_take hk)
      rw [List.length_take, Nat.min_eq_left (by omega)] at b1
      have b2 := HL.out _ (List.getElem_mem hik)
      have HE := Lib.hid e
      have b3 : 0 ≤ lostR (ks.take i) := b1.1
      have b4 : lostR (ks.take i) ≤ 4398046511104 := by omega
      generalize lostR (ks.take i) = x at *
      generalize ks[i].r.lost = y at *
      generalize ks[i].rb = rb at *
      obtain ⟨b5, b6⟩ := b2
      have b7 : x + y ≤ 140737488355328 := by omega
      clear e b1
      go_wp2_with fail
      refine KL.mono ?_
      rintro e w1 ⟨rfl, rfl⟩
      clear KL
      go_wp2_with fail
      go_roundw
      case rel => exact ⟨by first | trivial | rfl, i + 1, by omega, by go_num, by rw [HE.out]⟩
      case measure => simp [intOf]; omega
    · have hii : ¬ (i : Int) < 4 := by omega
      have hie : i = 4 := by omega
      subst hie
      rw [List.take_of_length_le (by omega)]
      go_wp2_with fail
      go_ret
      exact ⟨rfl, rfl⟩

def zF (ks : List Kr) (oc : Int) : Int := match ks[oc.toNat]? with | some k => k.z | none => -1
/-- the look at the element that has this place in its controller's list -/
def lookF (ks : List Kr) (age now oc i : Int) (l : List Int) (worst : Int) : Lk := if 0 ≤ i ∧ i < (l.length : Int) ∧ alF ks age now oc = true then ⟨l.getD i.toNat 0, zF ks oc, true⟩ else ⟨worst, -1, false⟩
theorem alF_in {ks : List Kr} {age now oc : Int} (h : alF ks age now oc = true) : ∃ j : Nat, ∃ _ : j < ks.length, oc = (j : Int) := by
  unfold alF at h
  split at h
  · rename_i h0
    cases e : ks[oc.toNat]? with
    | none => rw [e] at h; cases h
    | some k => exact ⟨oc.toNat, (List.getElem?_eq_some_iff.1 e).1, by omega⟩
  · cases h
set_option maxRecDepth 100000 in
set_option maxHeartbeats 2000000 in
theorem look_any (h : Jm w base n p C ks) (hz : ∀ k ∈ ks, -1 ≤ k.z) (now oc i : Int) (hn : now ≤ 9223372036854775807) {A : Option Addr} {c : Nat} {l : List Int} (hr : Rd w A (l.map (Value.int .i64))) (hl : l.length ≤ 17592186044416) (worst : Int) :
    Calls Try.prog 52 #[.pointer (some ⟨p.b, 0, none⟩), .int .i64 now, .int .i64 oc, .int .i64 i, .slice A l.length c, .int .i64 worst] w fun e w' => e = .returned (.agg #[.int .i64 (lookF ks C.t.age now oc i l worst).v, .int .i64 (lookF ks C.t.age now oc i l worst).z, .bool (lookF ks C.t.age now oc i l worst).b]) ∧ Fr (fun _ => False) w w' := by
  have ib := Is.new w 59 #[.int .i64 0, .int .i64 0, .bool false]
  have fa := (Fr.refl (fun _ => False) w).alloc (.cells #[.int .i64 0, .int .i64 0, .bool false] 59)
  have h1 := h.fr0 fa
  have hr1 := hr.fr fa fun _ _ => id
  have h4 := h.h4
  have hsz : w.heap.size < (w.alloc (.cells #[.int .i64 0, .int .i64 0, .bool false] 59)).heap.size := by simp
  have KA := jalive_any h1 hz now oc hn
  have HN : Hid (¬ (0 ≤ i ∧ i < (l.length : Int) ∧ alF ks C.t.age now oc = true) → lookF ks C.t.age now oc i l worst = ⟨worst, -1, false⟩) := Lib.hid fun h => if_neg h
  have HY : Hid ((0 ≤ i ∧ i < (l.length : Int) ∧ alF ks C.t.age now oc = true) → lookF ks C.t.age now oc i l worst = ⟨l.getD i.toNat 0, zF ks oc, true⟩) := Lib.hid fun h => if_pos h
  have HAL : Hid (alF ks C.t.age now oc = true → ∃ j : Nat, ∃ _ : j < ks.length, oc = (j : Int)) := Lib.hid alF_in
  have HJ := Lib.hid h1
  have HR := Lib.hid hr1
  have HI := Lib.hid ib
  have HF := Lib.hid fa
  have hl9 : (l.length : Int) ≤ 17592186044416 := by omega
  generalize lookF ks C.t.age now oc i l worst = L at *
  generalize alF ks C.t.age now oc = al at *
  obtain ⟨lb, hlb⟩ : ∃ lb, lb = w.heap.size := ⟨_, rfl⟩
  rw [← hlb] at HI
  have HLB : Hid (w.heap.size ≤ lb) := Lib.hid (by omega)
  clear h hr h1 hr1 ib fa hsz
  by_cases q0 : 0 ≤ i
  · have d0 : decide (i < 0) = false := decide_eq_false (by omega)
    by_cases q1 : i < (l.length : Int)
    · have d1 : decide ((l.length : Int) ≤ i) = false := decide_eq_false (by omega)
      cases al with
      | false =>
        have e := HN.out (by simp)
        subst e
        clear HN HY HAL
        go_enter Try.func52, Try.ntmps52
        go_wp2_with fail
        refine KA.mono ?_
        rintro e w1 ⟨rfl, f1⟩
        rw [← hlb]
        clear hlb
        generalize w.alloc _ = w0 at *
        have i1 := HI.out.fr f1 id
        have HI1 := Lib.hid i1
        have HF1 := Lib.hid (fr_nil HF.out f1)
        clear KA f1
        simp only
        obtain ⟨m0, m1, m2⟩ := Te.three6 i1
        have z0 := i1.frozen 0
        have z1 := i1.frozen 1
        have z2 := i1.frozen 2
        clear i1
        go_wp2_with fail
        generalize hW : World.setCell _ ⟨lb, 2, none⟩ _ = W
        have i7 : Is W lb 59 #[.int .i64 worst, .int .i64 (-1), .bool false] := by
          rw [← hW]
          exact ((HI1.out.set 0 _).set 1 _).set 2 _
        have f7 : Fr (fun q => q = lb) w1 W := by
          rw [← hW]
          exact (((Fr.refl (fun q => q = lb) w1).setCell (p := ⟨lb, 0, none⟩) (.inl rfl) _).setCell (p := ⟨lb, 1, none⟩) (.inl rfl) _).setCell (p := ⟨lb, 2, none⟩) (.inl rfl) _
        clear hW m0 m1 m2 z0 z1 z2
        obtain ⟨m0, m1, m2⟩ := Te.three6 i7
        exact bodyPost_ret (v := .agg #[.int .i64 worst, .int .i64 (-1), .bool false]) (by simp [results, Try.results52, go_sem, m0, m1, m2]) rfl ⟨rfl, HF1.out.trans f7 fun q hq e => by have := HLB.out; omega⟩
      | true =>
        have e := HY.out ⟨q0, q1, rfl⟩
        subst e
        obtain ⟨j, hj, rfl⟩ := HAL.out rfl
        obtain ⟨k, rfl⟩ : ∃ k : Nat, i = (k : Int) := ⟨i.toNat, by omega⟩
        have hk : k < l.length := by omega
        have ez : zF ks (j : Int) = ks[j].z := by
          unfold zF
          rw [Int.toNat_natCast, List.getElem?_eq_getElem hj]
        have el : l.getD (k : Int).toNat 0 = l[k] := by
          rw [Int.toNat_natCast, List.getD_eq_getElem?_getD, List.getElem?_eq_getElem hk]
          rfl
        obtain ⟨x, hx⟩ : ∃ x, l[k] = x := ⟨_, rfl⟩
        obtain ⟨z, hzz⟩ : ∃ z, ks[j].z = z := ⟨_, rfl⟩
        rw [ez, el, hx, hzz]
        have HX := Lib.hid hx
        have HZ := Lib.hid hzz
        clear HN HY HAL ez el hx hzz
        go_enter Try.func52, Try.ntmps52
        go_wp2_with fail
        refine KA.mono ?_
        rintro e w1 ⟨rfl, f1⟩
        rw [← hlb]
        clear hlb
        generalize w.alloc _ = w0 at *
        have HI1 := Lib.hid (HI.out.fr f1 id)
        have HF1 := Lib.hid (fr_nil HF.out f1)
        have HJ1 := HJ.out.fr0 f1
        obtain ⟨g, o, rfl, _, cl⟩ := Te.rd_int (HR.out.fr f1 fun _ _ => id) hk
        have cz := HJ1.zcell hj
        obtain ⟨_, _, _, _, _, _, _, _, _, _, _, p11⟩ := twelve HJ1.is
        have hj4 : (j : Int) < 4 := by omega
        rw [HX.out] at cl
        rw [HZ.out] at cz
        have CL := Lib.hid cl
        have CZ := Lib.hid cz
        have CP := Lib.hid p11
        clear KA f1 HJ1 cl cz p11
        go_wp2_with fail
        refine region_late 12 [30, 31, 32, 33, 34, 35, 36, 37, 38, 39, 40, 41] [(30, .val (.slice (some ⟨g, o, none⟩) l.length c)), (31, .val (.int .i64 (k : Int))), (32, .val (.pointer (some ⟨g, o + k, none⟩))), (33, .val (.int .i64 x)), (34, .val (.pointer (some ⟨p.b, 0, none⟩))), (35, .val (.pointer (some ⟨p.b, 0, none⟩))), (36, .val (.pointer (some ⟨p.b, 11, none⟩))), (37, .val (.slice (some ⟨p.gZ, 0, none⟩) 4 p.cZ)), (38, .val (.int .i64 (j : Int))), (39, .val (.pointer (some ⟨p.gZ, j, none⟩))), (40, .val (.int .i64 z)), (41, .val (.agg #[.int .i64 x, .int .i64 z, .bool true]))] (by kernel_rfl) (by kernel_rfl) (by kernel_rfl) (by decide) (by kernel_rfl) (by kernel_rfl) (by kernel_rfl) ?_ ?_
        · intro i9 o9 ho him
          have hcase : i9 = 0 ∨ i9 = 1 ∨ i9 = 2 ∨ i9 = 3 ∨ i9 = 4 ∨ i9 = 5 ∨ i9 = 6 ∨ i9 = 7 ∨ i9 = 8 ∨ i9 = 9 ∨ i9 = 10 ∨ i9 = 11 := by omega
          clear him
          rcases hcase with rfl | rfl | rfl | rfl | rfl | rfl | rfl | rfl | rfl | rfl | rfl | rfl <;> (injection ho with ho; subst ho; intro a' w' hf hl)
          · have e0 : a'.eval (.tmp 4) = .slice (some ⟨g, o, none⟩) l.length c := hl 4 (by decide)
            refine l_of rfl (v := .slice (some ⟨g, o, none⟩) l.length c) (w' := w') (by clear hl; revert e0; generalize a'.eval = ev; intro e0; go_simp) (putL' (Fr.refl _ _) rfl)
          · have e0 : a'.eval (.tmp 3) = .int .i64 (k : Int) := hl 3 (by decide)
            refine l_of rfl (v := .int .i64 (k : Int)) (w' := w') (by clear hl; revert e0; generalize a'.eval = ev; intro e0; go_simp) (putL' (Fr.refl _ _) rfl)
          · have e0 : a'.eval (.tmp 30) = .slice (some ⟨g, o, none⟩) l.length c := hl 30 (by decide)
            have e1 : a'.eval (.tmp 31) = .int .i64 (k : Int) := hl 31 (by decide)
            refine l_of rfl (v := .pointer (some ⟨g, o + k, none⟩)) (w' := w') (by clear hl; revert e0 e1; generalize a'.eval = ev; intro e0 e1; go_simp) (putL' (Fr.refl _ _) rfl)
          · have e0 : a'.eval (.tmp 32) = .pointer (some ⟨g, o + k, none⟩) := hl 32 (by decide)
            have cc := (hf.cell (p := ⟨g, o + k, none⟩) (World.block_lt_of_cell? _ _ CL.out) id).trans CL.out
            refine l_of rfl (v := .int .i64 x) (w' := w') (by clear hl; revert e0; generalize a'.eval = ev; intro e0; go_simp) (putL' (Fr.refl _ _) rfl)
          · have e0 : a'.eval (.tmp 0) = .pointer (some ⟨p.b, 0, none⟩) := hl 0 (by decide)
            refine l_of rfl (v := .pointer (some ⟨p.b, 0, none⟩)) (w' := w') (by clear hl; revert e0; generalize a'.eval = ev; intro e0; go_simp) (putL' (Fr.refl _ _) rfl)
          · have e0 : a'.eval (.tmp 34) = .pointer (some ⟨p.b, 0, none⟩) := hl 34 (by decide)
            refine l_of rfl (v := .pointer (some ⟨p.b, 0, none⟩)) (w' := w') (by clear hl; revert e0; generalize a'.eval = ev; intro e0; go_simp) (putL' (Fr.refl _ _) rfl)
          · have e0 : a'.eval (.tmp 35) = .pointer (some ⟨p.b, 0, none⟩) := hl 35 (by decide)
            refine l_of rfl (v := .pointer (some ⟨p.b, 11, none⟩)) (w' := w') (by clear hl; revert e0; generalize a'.eval = ev; intro e0; go_simp) (putL' (Fr.refl _ _) rfl)
          · have e0 : a'.eval (.tmp 36) = .pointer (some ⟨p.b, 11, none⟩) := hl 36 (by decide)
            have cc := (hf.cell (p := ⟨p.b, 11, none⟩) (World.block_lt_of_cell? _ _ CP.out) id).trans CP.out
            refine l_of rfl (v := .slice (some ⟨p.gZ, 0, none⟩) 4 p.cZ) (w' := w') (by clear hl; revert e0; generalize a'.eval = ev; intro e0; go_simp) (putL' (Fr.refl _ _) rfl)
          · have e0 : a'.eval (.tmp 2) = .int .i64 (j : Int) := hl 2 (by decide)
            refine l_of rfl (v := .int .i64 (j : Int)) (w' := w') (by clear hl; revert e0; generalize a'.eval = ev; intro e0; go_simp) (putL' (Fr.refl _ _) rfl)
          · have e0 : a'.eval (.tmp 37) = .slice (some ⟨p.gZ, 0, none⟩) 4 p.cZ := hl 37 (by decide)
            have e1 : a'.eval (.tmp 38) = .int .i64 (j : Int) := hl 38 (by decide)
            refine l_of rfl (v := .pointer (some ⟨p.gZ, j, none⟩)) (w' := w') (by clear hl; revert e0 e1; generalize a'.eval = ev; intro e0 e1; go_simp) (putL' (Fr.refl _ _) rfl)
          · have e0 : a'.eval (.tmp 39) = .pointer (some ⟨p.gZ, j, none⟩) := hl 39 (by decide)
            have cc := (hf.cell (p := ⟨p.gZ, j, none⟩) (World.block_lt_of_cell? _ _ CZ.out) id).trans CZ.out
            refine l_of rfl (v := .int .i64 z) (w' := w') (by clear hl; revert e0; generalize a'.eval = ev; intro e0; go_simp) (putL' (Fr.refl _ _) rfl)
          · have e0 : a'.eval (.tmp 33) = .int .i64 x := hl 33 (by decide)
            have e1 : a'.eval (.tmp 40) = .int .i64 z := hl 40 (by decide)
            have e2 : a'.eval (.const (Value.bool true)) = Value.bool true := rfl
            refine l_of rfl (v := .agg #[.int .i64 x, .int .i64 z, .bool true]) (w' := w') (by clear hl; revert e0 e1 e2; generalize a'.eval = ev; intro e0 e1 e2; go_simp) (putL' (Fr.refl _ _) rfl)
        · intro val w' hf hT
          have e41 : val 41 = .agg #[.int .i64 x, .int .i64 z, .bool true] := hT 41 (by decide)
          simp only [laidL, List.foldl_cons, List.foldl_nil, e41]
          clear hT
          generalize val 30 = v30; generalize val 31 = v31; generalize val 32 = v32; generalize val 33 = v33; generalize val 34 = v34; generalize val 35 = v35; generalize val 36 = v36; generalize val 37 = v37; generalize val 38 = v38; generalize val 39 = v39; generalize val 40 = v40
          simp only [List.setIfInBounds_toArray, List.set_cons_succ, List.set_cons_zero]
          have i1 := Is.fr (S := fun _ => False) (Is.drew HI1.out) hf id
          obtain ⟨m0, m1, m2⟩ := Te.three6 i1
          have z0 := i1.frozen 0
          have z1 := i1.frozen 1
          have z2 := i1.frozen 2
          obtain ⟨W, hW⟩ : ∃ W, W = ((w'.setCell ⟨lb, 0, none⟩ (.int .i64 x)).setCell ⟨lb, 1, none⟩ (.int .i64 z)).setCell ⟨lb, 2, none⟩ (.bool true) := ⟨_, rfl⟩
          have i7 : Is W lb 59 #[.int .i64 x, .int .i64 z, .bool true] := by
            rw [hW]
            exact ((i1.set 0 _).set 1 _).set 2 _
          have f7 : Fr (fun q => q = lb) w' W := by
            rw [hW]
            exact (((Fr.refl (fun q => q = lb) w').setCell (p := ⟨lb, 0, none⟩) (.inl rfl) _).setCell (p := ⟨lb, 1, none⟩) (.inl rfl) _).setCell (p := ⟨lb, 2, none⟩) (.inl rfl) _
          refine tail1 rfl rfl rfl (w' := W) (by rw [hW]; go_simp) ?_
          clear hW m0 m1 m2 z0 z1 z2 i1
          obtain ⟨m0, m1, m2⟩ := Te.three6 i7
          go_wp2_with fail
          exact bodyPost_ret (v := .agg #[.int .i64 x, .int .i64 z, .bool true]) (by simp [results, Try.results52, go_sem, m0, m1, m2]) rfl ⟨rfl, ((HF1.out.drew).trans hf fun _ _ h => h).trans f7 fun q hq e => by have := HLB.out; omega⟩
    · have d1 : decide ((l.length : Int) ≤ i) = true := decide_eq_true (by omega)
      have e := HN.out (fun h => q1 h.2.1)
      subst e
      have i1 := HI.out
      have HI1 := Lib.hid i1
      clear HN HY HAL
      go_enter Try.func52, Try.ntmps52
      go_upto_region 2 with fail
      rw [← hlb]
      clear hlb KA
      generalize w.alloc _ = w0 at *
      obtain ⟨m0, m1, m2⟩ := Te.three6 i1
      have z0 := i1.frozen 0
      have z1 := i1.frozen 1
      have z2 := i1.frozen 2
      clear i1
      go_wp2_with fail
      generalize hW : World.setCell _ ⟨lb, 2, none⟩ _ = W
      have i7 : Is W lb 59 #[.int .i64 worst, .int .i64 (-1), .bool false] := by
        rw [← hW]
        exact ((HI1.out.set 0 _).set 1 _).set 2 _
      have f7 : Fr (fun q => q = lb) w0 W := by
        rw [← hW]
        exact (((Fr.refl (fun q => q = lb) w0).setCell (p := ⟨lb, 0, none⟩) (.inl rfl) _).setCell (p := ⟨lb, 1, none⟩) (.inl rfl) _).setCell (p := ⟨lb, 2, none⟩) (.inl rfl) _
      clear hW m0 m1 m2 z0 z1 z2
      obtain ⟨m0, m1, m2⟩ := Te.three6 i7
      exact bodyPost_ret (v := .agg #[.int .i64 worst, .int .i64 (-1), .bool false]) (by simp [results, Try.results52, go_sem, m0, m1, m2]) rfl ⟨rfl, HF.out.trans f7 fun q hq e => by have := HLB.out; omega⟩
  · have d0 : decide (i < 0) = true := decide_eq_true (by omega)
    have e := HN.out (fun h => q0 h.1)
    subst e
    have i1 := HI.out
    have HI1 := Lib.hid i1
    clear HN HY HAL
    go_enter Try.func52, Try.ntmps52
    go_upto_region 2 with fail
    rw [← hlb]
    clear hlb KA
    generalize w.alloc _ = w0 at *
    obtain ⟨m0, m1, m2⟩ := Te.three6 i1
    have z0 := i1.frozen 0
    have z1 := i1.frozen 1
    have z2 := i1.frozen 2
    clear i1
    go_wp2_with fail
    generalize hW : World.setCell _ ⟨lb, 2, none⟩ _ = W
    have i7 : Is W lb 59 #[.int .i64 worst, .int .i64 (-1), .bool false] := by
      rw [← hW]
      exact ((HI1.out.set 0 _).set 1 _).set 2 _
    have f7 : Fr (fun q => q = lb) w0 W := by
      rw [← hW]
      exact (((Fr.refl (fun q => q = lb) w0).setCell (p := ⟨lb, 0, none⟩) (.inl rfl) _).setCell (p := ⟨lb, 1, none⟩) (.inl rfl) _).setCell (p := ⟨lb, 2, none⟩) (.inl rfl) _
    clear hW m0 m1 m2 z0 z1 z2
    obtain ⟨m0, m1, m2⟩ := Te.three6 i7
    exact bodyPost_ret (v := .agg #[.int .i64 worst, .int .i64 (-1), .bool false]) (by simp [results, Try.results52, go_sem, m0, m1, m2]) rfl ⟨rfl, HF.out.trans f7 fun q hq e => by have := HLB.out; omega⟩
end
end Go.Proofs.Ytfmhfngilimhjaa.Im

/- The walk of RingPlays: a queue holds, drops and gives back what the document says, in whatever row of calls. -/
import Derived.Test.YtgnbaknmibncmaaMo
import Derived.Test.YtgnbaknmibncmaaScript
import Derived.Deep.RegionHeld3
import Derived.Deep.LoopGhost
import Derived.Deep.CutRange
import Derived.Deep.DeepCutAuto
namespace Go.Proofs.Ytgnbaknmibncmaa
open Go.RowKit

/-- The two queues, the program's and the document's, hold the same; a third one holds nothing. -/
def PS (w0 : World) (br bm bo k : Nat) (L : List Int) (lost : Int) (w : World) : Prop := ∃ A c A' c', Que 60 3 1 w br k A c L.length (cellsI L) lost ∧ Mo w bm k A' c' L lost ∧ Que 60 3 1 w bo 3 none 0 0 [] 0 ∧
  (∀ j, blk A = some j → w0.heap.size ≤ j ∧ blk A' ≠ some j) ∧ (∀ j, blk A' = some j → w0.heap.size ≤ j) ∧ Fr (fun _ => False) w0 w

theorem parts2 {n k p : Nat} (f d : Nat) (hf : f = min p (k - n)) (hd : d = p - f) (hn : n ≤ k) : f + d = p ∧ (d = 0 ∧ n + f ≤ k ∨ 0 < d ∧ k = n + f) := by omega
theorem is_type {w : World} {b1 b2 : Nat} {t1 t2 : TypeId} {c1 c2 : Array Value} (h1 : Is w b1 t1 c1) (h2 : Is w b2 t2 c2) (h : t1 ≠ t2) : b1 ≠ b2 := by
  rintro rfl
  unfold Is at h1 h2
  rw [h1] at h2
  injection h2 with h2
  injection h2 with _ h2
  exact h h2

section
variable {W w5 : World} {br bm bo k c c' n n' : Nat} {A A' : Option Addr} {xs : List Value} {L : List Int} {lost lost' : Int}
theorem ps_r (qr : Que 60 3 1 W br k A c n xs lost) (qm : Mo W bm k A' c' L lost') (qo : Que 60 3 1 W bo 3 none 0 0 [] 0) (hro : br ≠ bo) (oA : ∀ j, blk A = some j → blk A' ≠ some j) (f : Fr (fun j => j = br ∨ blk A = some j) W w5) :
    Mo w5 bm k A' c' L lost' ∧ Que 60 3 1 w5 bo 3 none 0 0 [] 0 := by
  refine ⟨mo_fr qm f ?_ fun j hj => ?_, que_fr qo f ?_ fun j hj => by cases hj⟩
  · rintro (e | e)
    · exact is_type qr.is qm.is (by decide) e.symm
    · exact wide_is_ne qr.row qm.is (by decide) (by rw [Row.own]; exact e)
  · rintro (e | e)
    · exact wide_is_ne qm.row qr.is (by decide) (by rw [Row.own, hj, e])
    · exact oA j e hj
  · rintro (e | e)
    · exact hro e.symm
    · exact wide_is_ne qr.row qo.is (by decide) (by rw [Row.own]; exact e)
theorem ps_m (qr : Que 60 3 1 W br k A c n xs lost) (qm : Mo W bm k A' c' L lost') (qo : Que 60 3 1 W bo 3 none 0 0 [] 0) (oA : ∀ j, blk A = some j → blk A' ≠ some j) (f : Fr (fun j => j = bm ∨ blk A' = some j) W w5) :
    Que 60 3 1 w5 br k A c n xs lost ∧ Que 60 3 1 w5 bo 3 none 0 0 [] 0 := by
  refine ⟨que_fr qr f ?_ fun j hj => ?_, que_fr qo f ?_ fun j hj => by cases hj⟩
  · rintro (e | e)
    · exact is_type qr.is qm.is (by decide) e
    · exact wide_is_ne qm.row qr.is (by decide) (by rw [Row.own]; exact e)
  · rintro (e | e)
    · exact wide_is_ne qr.row qm.is (by decide) (by rw [Row.own, hj, e])
    · exact oA j hj e
  · rintro (e | e)
    · exact is_type qo.is qm.is (by decide) e
    · exact wide_is_ne qm.row qo.is (by decide) (by rw [Row.own]; exact e)
end

theorem calls_symm {P : Program} {f : FuncId} {args : Array Value} {W : World} {v : Value} (h : Calls P f args W fun e w' => e = .returned v ∧ W = w') : Calls P f args W fun e w' => e = .returned v ∧ w' = W := h.mono fun _ _ ⟨a, b⟩ => ⟨a, b.symm⟩
set_option maxHeartbeats 800000 in
theorem sameq {w : World} {A A' : Option Addr} {c c' : Nat} {l : List Int} (hl : Rd w A (cellsI l)) (hl' : Rd w A' (cellsI l)) (hlen : l.length ≤ 140737488351232) :
    Calls Try.prog 14 #[.slice A l.length c, .slice A' l.length c'] w fun e w' => e = .returned (.bool true) ∧ ∃ n, w' = w.drewN n := by
  go_enter Try.func14, Try.ntmps14
  go_wp2
  go_loopw [13] (fun i wr => ∃ k n, k ≤ l.length ∧ i = .int .i64 (k : Nat) ∧ wr = w.drewN n) (fun i _ => l.length - (intOf i).toNat)
  case atStart => exact ⟨0, 0, Nat.zero_le _, rfl, rfl⟩
  case round =>
    obtain ⟨k, n, hk, rfl, rfl⟩ := hrel
    by_cases hlt : k < l.length
    · obtain ⟨g, o, rfl, hg, hc⟩ := hl (by rw [cellsI_length]; omega)
      obtain ⟨g', o', rfl, hg', hc'⟩ := hl' (by rw [cellsI_length]; omega)
      have hx : (cellsI l)[k]? = some (.int .i64 l[k]) := by unfold cellsI; rw [List.getElem?_map, List.getElem?_eq_getElem hlt]; rfl
      have c1 := hc k _ hx
      have c2 := hc' k _ hx
      clear hc hc' hl hl' hx
      generalize l[k] = x at *
      go_wp2
      go_quiet (fail)
      go_wp2
      go_roundw
      case rel => exact ⟨k + 1, _, by omega, by go_num, rfl⟩
      case measure => simp [intOf]; omega
    · go_wp2
      go_ret
      exact ⟨rfl, n, rfl⟩

set_option maxRecDepth 100000 in
set_option maxHeartbeats 16000000 in
theorem plays_walk (a : Int) (ha1 : -9223372036854775808 ≤ a) (ha2 : a ≤ 9223372036854775807) (A2 : Option Addr) (c2 : Nat) (l : List Opr) (hl : l.length * 32 ≤ 140737488351232) (hll : ∀ p ∈ l, p.l.length * 8 ≤ 140737488351232) (w : World) (h : Script w A2 l) :
    Calls Try.prog 3 #[.int .i64 a, .slice A2 l.length c2] w fun e w' => e = .returned (.bool true) ∧ Below w.heap.size w w' := by
  obtain ⟨i0, hi0, hz0, hz1, hz2⟩ := info_parts infoI
  have KL := lives_any w
  have KI := fun w => makeI a w ha1 ha2
  have KM := fun w => mnew a w ha1 ha2
  have KO := fun w => makeI 3 w (by omega) (by omega)
  rw [show roomN 3 = 3 by decide] at KO
  have hlo := roomN_lo a
  have hhi := roomN_hi a
  generalize roomN a = k at *
  go_enter Try.func3, Try.ntmps3
  go_wp2_with fail
  refine KL.mono ?_
  clear KL
  rintro e w1 ⟨rfl, f1⟩
  go_wp2_with fail
  refine (KI _).mono ?_
  clear KI
  rintro e w2 ⟨rfl, qa, f2, z2⟩
  go_wp2_with fail
  refine (KM _).mono ?_
  clear KM
  rintro e w3 ⟨rfl, qm, f3, z3⟩
  go_wp2_with fail
  refine (KO _).mono ?_
  clear KO
  rintro e w4 ⟨rfl, qo, f4, z4⟩
  have hbr : w.heap.size ≤ w1.heap.size := f1.size
  have hbm : w.heap.size ≤ w2.heap.size := Nat.le_trans hbr (Nat.le_of_lt z2)
  have hro : w1.heap.size ≠ w3.heap.size := by omega
  have hbo : w.heap.size ≤ w3.heap.size := by omega
  have PS0 : PS w w1.heap.size w2.heap.size w3.heap.size k [] 0 w4 := ⟨none, 0, none, 0, que_none (que_none qa f3) f4, mo_none qm f4, qo, (fun _ h => by cases h), (fun _ h => by cases h), own_fr0 (own_fr0 (own_fr0 f1 f2) f3) f4⟩
  clear f1 f2 f3 f4 z2 z3 z4 qa qm qo
  generalize w1.heap.size = br at *
  generalize w2.heap.size = bm at *
  generalize w3.heap.size = bo at *
  go_wp2_with fail
  go_loopg [28] l.length (fun g i wr => ∃ (j : Nat) (L : List Int) (lost : Int), j ≤ l.length ∧ g = l.length - j ∧ i = .int .i64 (j : Nat) ∧ PS w br bm bo k L lost wr)
  case atStart => exact ⟨0, [], 0, Nat.zero_le _, rfl, rfl, PS0⟩
  case round =>
    clear PS0
    obtain ⟨j, L, lost, hj, rfl, rfl, A, c, A', c', qr, qm, qo, oA, oM, fr⟩ := hrel
    by_cases hlt : j < l.length
    · obtain ⟨g, o, rfl, hg, hcl⟩ := h.1 (by omega)
      obtain ⟨hp0, hp1⟩ := hcl j hlt
      have hok := h.2 l[j] (List.getElem_mem hlt)
      have hsz := hll l[j] (List.getElem_mem hlt)
      have hx0 : wr.cell? ⟨g, o + j * 2, none⟩ = some (.bool l[j].t) := (fr.cell (p := ⟨g, o + j * 2, none⟩) hg id).trans hp0
      have hx1 : wr.cell? ⟨g, o + j * 2 + 1, none⟩ = some (.slice l[j].A l[j].l.length l[j].c) := (fr.cell (p := ⟨g, o + j * 2 + 1, none⟩) hg id).trans hp1
      generalize l[j] = p at *
      obtain ⟨t, Ap, cp, lp⟩ := p
      simp only at hx0 hx1 hsz
      obtain ⟨hrd, hcp, hmx⟩ := hok
      simp only at hrd hcp hmx
      have HH := Lib.hid h
      have HLL := Lib.hid hll
      clear h hll hp0 hp1 hcl
      go_upto_if 33 with (fail)
      have fa := (Fr.refl (fun _ => False) wr).alloc (.cells #[.bool t, .slice Ap lp.length cp] 30)
      have ia := Is.new wr 30 #[.bool t, .slice Ap lp.length cp]
      have hob : wr.heap.size < (wr.alloc (.cells #[.bool t, .slice Ap lp.length cp] 30)).heap.size := by simp
      have hfs := fr.size
      have hrb := qr.is.lt
      have hmb := qm.is.lt
      have oA' := wide_lt qr.row
      have oM' := wide_lt qm.row
      replace qr := que_none qr fa
      replace qm := mo_none qm fa
      replace qo := que_none qo fa
      replace fr := own_fr0 fr fa
      generalize wr.alloc (.cells #[.bool t, .slice Ap lp.length cp] 30) = W at *
      generalize wr.heap.size = ob at *
      clear fa hx0 hx1 wr
      go_cut [10, 11, 12, 13, 14, 15, 28] from 28 to 161 (fun s10 s11 s12 s13 s14 s15 s28 wx => s28 = .int .i64 (j : Nat) ∧ ∃ (L : List Int) (lost : Int), PS w br bm bo k L lost wx)
      case first =>
        cases t with
        | true =>
          rcases L with _ | ⟨x, L⟩
          · go_wp2_with fail
            refine (noneI qr).mono ?_
            rintro e w5 ⟨rfl, rfl⟩
            go_wp2_with fail
            refine (mnone qm).mono ?_
            rintro e w6 ⟨rfl, rfl⟩
            go_wp2_with fail
            go_meet
            exact ⟨rfl, [], lost, A, c, A', c', qr, qm, qo, oA, oM, fr⟩
          · go_wp2_with fail
            refine (takeI (x := x) (xs := cellsI L) (n := L.length) qr).mono ?_
            rintro e w5 ⟨rfl, qr5, f5⟩
            obtain ⟨qm5, qo5⟩ := ps_r qr qm qo hro (fun j hj => (oA j hj).2) f5
            have fr5 := own_que fr f5 hbr fun j hj => (oA j hj).1
            have hL : L.length ≤ 64 := by have := qr5.fit; omega
            go_wp2_with fail
            refine (mtake qm5 hL).mono ?_
            rintro e w6 ⟨rfl, A6, c6, qm6, f6, a6⟩
            obtain ⟨qr6, qo6⟩ := ps_m qr5 qm5 qo5 (fun j hj => (oA j hj).2) (f6.mono fun _ _ h => .inl h)
            have fr6 := own_que (A := none) fr5 (f6.mono fun _ _ h => .inl h) hbm fun j hj => by cases hj
            have h5 := f5.size
            go_wp2_with fail
            go_meet
            refine ⟨rfl, L, lost, A, c, A6, c6, qr6, qm6, qo6, fun j hj => ⟨(oA j hj).1, fun e => ?_⟩, fun j hj => Nat.le_trans fr5.size (a6 j hj), fr6⟩
            have := oA' j (by rw [Row.own]; exact hj)
            have := a6 j e
            omega
        | false =>
          have f0 := (Fr.refl (fun _ => False) W).alloc (.cells #[] 3)
          have own0 : (W.alloc (.cells #[] 3)).ownsRow W.heap.size 3 1 (.slice (some ⟨W.heap.size, 0, none⟩) 0 0) 0 [] := World.ownsRow_lit W #[] 0 (Nat.le_refl _) (by unfold maxLen; omega) rfl
          have hrd0 : Rd (W.alloc (.cells #[] 3)) Ap (cellsI lp) := (hrd.fr fr fun _ _ => id).fr f0 fun _ _ => id
          have ic := ia.cell 1
          go_wp2_with (first | (at_builtin; refine wpList_append_wide _ rfl (.tmp 52) (.tmp 54) 28 rfl W.heap.size 3 i0 _ 1 8 Try.underlying28 hi0 hz0 hz1 hz2 rfl (by decide) (.slice (some ⟨W.heap.size, 0, none⟩) 0 0) 0 [] rfl own0 Ap cp lp.length (cellsI lp) (by rw [cellsI_length, Nat.mul_one]) rfl hrd0 (cellsI_one lp) (by unfold maxLen; omega) (by omega) (by simp) ?_; intro v5 w5 own5 g5 _; rw [Nat.zero_add, List.nil_append] at own5; have f5 := f0.grown g5 (fun j hj => .inr (Nat.le_of_eq (own_at hj))); obtain ⟨A5, c5, rfl, _, _, _, _⟩ := wide_form own5; clear own0 g5 f0; have f6 := f5.alloc (.cells #[.int .i64 77] 3); have own6 := own5.alloc (.cells #[.int .i64 77] 3)) | (at_builtin; refine wpList_append_wide _ rfl (.tmp 55) (.tmp 56) 28 rfl W.heap.size 3 i0 _ 1 8 Try.underlying28 hi0 hz0 hz1 hz2 rfl (by decide) (.slice A5 lp.length c5) lp.length (cellsI lp) rfl own6 (some ⟨w5.heap.size, 0, none⟩) 1 1 [.int .i64 77] rfl rfl (Rd.one w5 (.int .i64 77) 3) (cellsI_one [77]) (by unfold maxLen; omega) (by omega) (by have := f5.size; simp; omega) ?_; intro v7 w7 own7 g7 _; have hlo6 := World.ownsRow.lt own6; have f7 := f6.grown g7 (fun j hj => .inr (hlo6 j hj).1); obtain ⟨A7, c7, rfl, hc7, _, hA7, _⟩ := wide_form own7; clear own6 own5 f6 f5 g7 hlo6))
          obtain ⟨go, rfl, hgo⟩ := hA7 (by omega)
          clear hA7
          have hgo2 : W.heap.size ≤ go := (World.ownsRow.lt own7 go rfl).1
          have fd := f7.drew
          have qr7 := que_none qr fd
          have qm7 := mo_none qm fd
          have qo7 := que_none qo fd
          have ia7 := ia.fr fd id
          have fr7 := own_fr0 fr fd
          have own7d := World.ownsRow.drew own7
          obtain ⟨f, d, hfe, hde⟩ : ∃ f d, f = min lp.length (k - L.length) ∧ d = lp.length - f := ⟨_, _, rfl, rfl⟩
          obtain ⟨e1, e2⟩ := parts2 f d hfe hde qr.fit
          have hLk : L.length ≤ k := qr.fit
          have hrdo : Rd w7.drew (some ⟨go, 0, none⟩) (cellsI lp) := (wide_rd own7d).pre
          have K12 := putI (w := w7.drew) (f := f) (d := d) (c2 := c7) (ys := cellsI (lp.take f)) (zs := cellsI (lp.drop f)) qr7 (by rw [← cellsI_split lp f]; exact hrdo) (by rw [cellsI_length, List.length_take]; omega) (cellsI_one _) (by omega) (by unfold maxLen at *; omega) e2
          rw [e1, show L.length + f = (L ++ lp.take f).length by rw [List.length_append, List.length_take]; omega, show cellsI L ++ cellsI (lp.take f) = cellsI (L ++ lp.take f) by unfold cellsI; rw [List.map_append]] at K12
          have K13 := fun (w8 : World) (q : Mo w8 bm k A' c' L lost) (hr : Rd w8 Ap (cellsI lp)) => mput (c2 := cp) q hhi hLk hr (fun h0 i hi => by
            obtain ⟨b1, o1, hb1, hb2, _⟩ := hrd (by rw [cellsI_length]; omega)
            rw [hb1] at hi
            have : b1 = i := by simpa [blk] using hi
            exact ⟨by omega, fun e => by have := oM i e; omega⟩) (by omega)
          rw [← hfe, ← hde] at K13
          have hA' : ∀ i, blk A = some i → i < ob := fun i hi => oA' i (by rw [Row.own]; exact hi)
          have hM' : ∀ i, blk A' = some i → i < ob := fun i hi => oM' i (by rw [Row.own]; exact hi)
          have hne1 : go ≠ br := fun e => wide_is_ne own7d qr7.is (by decide) (by rw [← e]; rfl)
          have hne2 : go ≠ bm := fun e => wide_is_ne own7d qm7.is (by decide) (by rw [← e]; rfl)
          have go1 : ∀ i, (Value.slice (some ⟨go, 0, none⟩) (lp.length + 1) c7).ownBlock = some i → ¬ (i = br ∨ blk A = some i) := fun i hi e => by
            have := own_at hi
            rcases e with e | e
            · omega
            · have := hA' i e
              omega
          have go2 : ∀ i, (Value.slice (some ⟨go, 0, none⟩) (lp.length + 1) c7).ownBlock = some i → ¬ (i = bm ∨ blk A' = some i) := fun i hi e => by
            have := own_at hi
            rcases e with e | e
            · omega
            · have := hM' i e
              omega
          have ob1 : ¬ (ob = br ∨ blk A = some ob) := fun e => by
            rcases e with e | e
            · omega
            · have := hA' ob e
              omega
          have ob2 : ¬ (ob = bm ∨ blk A' = some ob) := fun e => by
            rcases e with e | e
            · omega
            · have := hM' ob e
              omega
          have hlast : ∀ Wx : World, Wx.ownsRow W.heap.size 3 1 (.slice (some ⟨go, 0, none⟩) (lp.length + 1) c7) (lp.length + 1) (cellsI lp ++ [.int .i64 77]) → Wx.cell? ⟨go, lp.length, none⟩ = some (.int .i64 77) := fun Wx ho => by
            rw [ho.cellAt lp.length (by omega), List.getElem?_append_right (by rw [cellsI_length]; exact Nat.le_refl _), cellsI_length, Nat.sub_self]
            rfl
          have k7a : w7.drew.cell? ⟨ob, 1, none⟩ = some (.slice Ap lp.length cp) := ia7.cell 1
          have k7b := hlast _ own7d
          have hfdr := fd.size
          have hnc : (lp.length : Int) ≤ (c7 : Int) := by omega
          have HLAST := Lib.hid hlast
          have GO1 := Lib.hid go1
          have GO2 := Lib.hid go2
          have HA' := Lib.hid hA'
          have HM' := Lib.hid hM'
          have HOA := Lib.hid oA
          have HOM := Lib.hid oM
          have HRD := Lib.hid hrd
          clear hfe hde e1 e2 hlast go1 go2 hA' hM' oA oM hrd hrdo oA' oM' hrd0 qr qm qo ia fr ic own7 f7
          have hix0 : (0 : Int) ≤ (lp.length : Int) := by omega
          have hix1 : (lp.length : Int) < (lp.length : Int) + 1 := by omega
          have hix2 : lp.length < lp.length + 1 := by omega
          go_region_held3 (fun Wx => Wx.cell? ⟨ob, 1, none⟩ = some (.slice Ap lp.length cp) ∧ Wx.cell? ⟨go, lp.length, none⟩ = some (.int .i64 77)) (first | exact ⟨k7a, k7b⟩ | exact ⟨k8a, k8b⟩ | exact ⟨k9a, k9b⟩ | exact ⟨k10a, k10b⟩) (first | (go_at_call 12; refine K12.mono ?_; clear K12; rintro e w8 ⟨rfl, A8, c8, qr8, f8, a8⟩; have pr8 := ps_r qr7 qm7 qo7 hro (fun i hi => (HOA.out i hi).2) f8; have own8 := wide_fr own7d f8 GO1.out; have ia8 := ia7.fr f8 ob1; have fr8 := own_que fr7 f8 hbr (fun i hi => (HOA.out i hi).1); have k8a : w8.cell? ⟨ob, 1, none⟩ = some (.slice Ap lp.length cp) := ia8.cell 1; have k8b := HLAST.out _ own8) | (go_at_call 13; refine (K13 _ pr8.1 (HRD.out.fr fr8 fun _ _ => id)).mono ?_; clear K13; rintro e w9 ⟨rfl, A9, c9, qm9, f9, a9⟩; have own9 := wide_fr own8 f9 GO2.out; have ia9 := ia8.fr f9 ob2; have fr9 := own_que fr8 f9 hbm HOM.out; have k9a : w9.cell? ⟨ob, 1, none⟩ = some (.slice Ap lp.length cp) := ia9.cell 1; have k9b := HLAST.out _ own9) | (go_at_call 14; refine (sameints_any (l := lp) ((wide_rd own9).pre) (HRD.out.fr fr9 fun _ _ => id) (by omega)).mono ?_; rintro e w10 ⟨rfl, f10⟩; have own10 := wide_fr own9 f10 (fun _ _ => id); have ia10 := ia9.fr f10 id; have k10a : w10.cell? ⟨ob, 1, none⟩ = some (.slice Ap lp.length cp) := ia10.cell 1; have k10b := HLAST.out _ own10))
          have sep8 : ∀ i, blk A8 = some i → w.heap.size ≤ i ∧ blk A' ≠ some i := fun i hi => by
            rcases a8 with h | h
            · exact HOA.out i (h ▸ hi)
            · have := h i hi
              exact ⟨by omega, fun e => by have := HM'.out i e; omega⟩
          obtain ⟨qr9, qo9⟩ := ps_m qr8 pr8.1 pr8.2 (fun i hi => (sep8 i hi).2) f9
          have sep9 : ∀ i, blk A8 = some i → w.heap.size ≤ i ∧ blk A9 ≠ some i := fun i hi => by
            refine ⟨(sep8 i hi).1, fun e => ?_⟩
            rcases a9 with h | h
            · exact (sep8 i hi).2 (h ▸ e)
            · have := h i e
              have := wide_lt qr8.row i (by rw [Row.own]; exact hi)
              omega
          have own9' : ∀ i, blk A9 = some i → w.heap.size ≤ i := fun i hi => by
            rcases a9 with h | h
            · exact HOM.out i (h ▸ hi)
            · exact Nat.le_trans fr8.size (h i hi)
          have qr10 := que_none qr9 f10
          have qm10 := mo_none qm9 f10
          have qo10 := que_none qo9 f10
          have fr10 := own_fr0 fr9 f10
          have go8 : blk A8 ≠ some go := fun e => by
            rcases a8 with h | h
            · exact GO1.out go rfl (.inr (h ▸ e))
            · have h2 : w7.heap.size ≤ go := h go e
              omega
          have go9 : blk A9 ≠ some go := fun e => by
            rcases a9 with h | h
            · exact GO2.out go rfl (.inr (h ▸ e))
            · have h2 : w8.heap.size ≤ go := h go e
              have h3 : w7.heap.size ≤ w8.heap.size := f8.size
              omega
          have hne3 : go ≠ bo := fun e => wide_is_ne own10 qo10.is (by decide) (by rw [← e]; rfl)
          have hgow : w.heap.size ≤ go := by omega
          clear f8 f9 f10 a8 a9 qr8 qr9 qm9 qo9 pr8 own8 own9 own7d ia8 ia9 ia10 k7a k7b k8a k8b k9a k9b k10a k10b fr7 fr8 fr9 qr7 qm7 qo7 sep8 ia7 fd hfdr
          go_wp2_with fail
          go_loopw [15, 92] (fun _ i wx => ∃ (m : Nat) (xs : List Value), m ≤ lp.length + 1 ∧ i = .int .i64 (m : Nat) ∧ wx.ownsRow W.heap.size 3 1 (.slice (some ⟨go, 0, none⟩) (lp.length + 1) c7) (lp.length + 1) xs ∧ Fr (fun i => i = go) w10 wx) (fun _ i _ => lp.length + 1 - (intOf i).toNat)
          case atStart => exact ⟨0, _, Nat.zero_le _, rfl, own10, Fr.refl _ _⟩
          case round =>
            clear own10
            obtain ⟨m, xs, hm, rfl, ox, fx⟩ := hrel
            by_cases hmn : m < lp.length + 1
            · have hxl := ox.1
              have hc := ox.cellAt m (by omega)
              rw [List.getElem?_eq_getElem (by omega)] at hc
              have hz := ox.frozenAt m
              generalize xs[m] = u at *
              obtain ⟨ox2, _⟩ := ox.stored m (.int .i64 (-1))
              have fx2 := fx.setCell (p := ⟨go, m, none⟩) (.inl rfl) (.int .i64 (-1))
              clear ox fx hxl
              have hmn2 : (m : Int) < (lp.length : Int) + 1 := by omega
              go_wp2_with fail
              go_roundw
              case rel => exact ⟨m + 1, _, by omega, by go_num, ox2, fx2⟩
              case measure => simp [intOf]; omega
            · go_wp2_with fail
              go_meet
              exact ⟨rfl, L ++ lp.take f, wrap64 (lost + (d : Nat)), A8, c8, A9, c9, que_fr qr10 fx (fun e => hne1 e.symm) (fun i hi e => go8 (e ▸ hi)), mo_fr qm10 fx (fun e => hne2 e.symm) (fun i hi e => go9 (e ▸ hi)), que_fr qo10 fx (fun e => hne3 e.symm) (fun i hi => by cases hi), sep9, own9', own_que (A := none) fr10 (fx.mono fun _ _ h => .inl h) hgow fun i hi => by cases hi⟩
      case rest =>
        obtain ⟨rfl, L2, lost2, A5, c5, A6, c6, qr5, qm5, qo5, oA5, oM5, fr5⟩ := hcut
        clear qr qm qo oA oM fr oA' oM' ia hrd
        go_wp2_with fail
        refine (allI qr5).mono ?_
        rintro e w6 ⟨A7, c7, rfl, own7, f7⟩
        have qr6 := que_none qr5 f7
        go_wp2_with fail
        refine (allI qr6).mono ?_
        rintro e w7 ⟨A8, c8, rfl, own8, f8⟩
        have own9 := own7
        replace own9 := wide_fr own9 f8 fun _ _ => id
        have hL2 : L2.length ≤ 64 := by have := qr5.fit; omega
        have hA7 := World.ownsRow.lt own9
        have hsz7 := f8.size
        have hb8 : ∀ i, blk A7 = some i → blk A8 ≠ some i := fun i hi e => by
          have h1 := wide_lt own7 i (by rw [Row.own]; exact hi)
          have h2 := (World.ownsRow.lt own8 i (by rw [Row.own]; exact e)).1
          omega
        have own8' := own_zero own8
        have fr7 := own_fr0 (own_fr0 fr5 f7) f8
        have qr7 := que_none qr6 f8
        have qm7 := mo_none (mo_none qm5 f7) f8
        have qo7 := que_none (que_none qo5 f7) f8
        have far : ∀ b t cs, Is wc b t cs → t ≠ 3 → ¬ blk A7 = some b := fun b t cs hi ht e => by
          have := (World.ownsRow.lt own7 b (by rw [Row.own]; exact e)).1
          have := hi.lt
          omega
        have hbr7 := far _ _ _ qr5.is (by decide)
        have hbm7 := far _ _ _ qm5.is (by decide)
        have hbo7 := far _ _ _ qo5.is (by decide)
        have hrow7 : ∀ i, blk A5 = some i → ¬ blk A7 = some i := fun i hi e => by
          have h1 := wide_lt qr5.row i (by rw [Row.own]; exact hi)
          have h2 := (World.ownsRow.lt own7 i (by rw [Row.own]; exact e)).1
          omega
        have hrow8 : ∀ i, blk A6 = some i → ¬ blk A7 = some i := fun i hi e => by
          have h1 := wide_lt qm5.row i (by rw [Row.own]; exact hi)
          have h2 := (World.ownsRow.lt own7 i (by rw [Row.own]; exact e)).1
          omega
        have how7 : ∀ i, blk A7 = some i → w.heap.size ≤ i := fun i hi => Nat.le_trans fr5.size (World.ownsRow.lt own7 i (by rw [Row.own]; exact hi)).1
        clear far qr6 own7 f7 f8 qr5 qm5 qo5 fr5 own8
        go_wp2_with fail
        go_loopw [18, 105] (fun _ i wx => ∃ (m : Nat) (xs : List Value), m ≤ L2.length ∧ i = .int .i64 (m : Nat) ∧ wx.ownsRow 0 3 1 (.slice A7 L2.length c7) L2.length xs ∧ Fr (fun i => blk A7 = some i) w7 wx) (fun _ i _ => L2.length - (intOf i).toNat)
        case atStart => exact ⟨0, _, Nat.zero_le _, rfl, own_zero own9, Fr.refl _ _⟩
        case round =>
          clear own9
          obtain ⟨m, xs, hm, rfl, ox, fx⟩ := hrel
          by_cases hmn : m < L2.length
          · obtain ⟨A9, c9, hv, _, _, hA9, _⟩ := wide_form ox
            have e9 : A9 = A7 := by injection hv with hv _ _; exact hv.symm
            subst e9
            obtain ⟨ga, rfl, _⟩ := hA9 (by omega)
            have hxl := ox.1
            have hc := ox.cellAt m (by omega)
            rw [List.getElem?_eq_getElem (by omega)] at hc
            have hz := ox.frozenAt m
            generalize xs[m] = u at *
            obtain ⟨ox2, _⟩ := ox.stored m (.int .i64 (-2))
            have fx2 := fx.setCell (p := ⟨ga, m, none⟩) (.inl rfl) (.int .i64 (-2))
            clear ox fx hxl hv hA9
            go_wp2_with fail
            go_roundw
            case rel => exact ⟨m + 1, _, by omega, by go_num, ox2, fx2⟩
            case measure => simp [intOf]; omega
          · have fxa := fx.alloc (.cells #[.int .i64 (-3)] 3)
            have hwx := fx.size
            have oxa := ox.alloc (.cells #[.int .i64 (-3)] 3)
            clear ox
            go_wp2_with (at_builtin; refine wpList_append_wide _ rfl (.tmp 112) (.tmp 113) 28 rfl 0 3 i0 _ 1 8 Try.underlying28 hi0 hz0 hz1 hz2 rfl (by decide) (.slice A7 L2.length c7) L2.length xs rfl oxa (some ⟨wr.heap.size, 0, none⟩) 1 1 [.int .i64 (-3)] rfl rfl (Rd.one wr (.int .i64 (-3)) 3) (cellsI_one [-3]) (by unfold maxLen; omega) (by omega) (Nat.zero_le _) ?_; intro v11 w11 own11 g11 _; have fy := fxa.grown g11 (fun j hj => .inl (by rw [Row.own] at hj; exact hj)); obtain ⟨A11, c11, rfl, _, _, _, _⟩ := wide_form own11; clear g11 own11 oxa fxa)
            have qr8 := que_fr qr7 fy hbr7 hrow7
            have qm8 := mo_fr qm7 fy hbm7 hrow8
            have qo8 := que_fr qo7 fy hbo7 fun i hi => by cases hi
            have own10 := wide_fr own8' fy fun i hi e => hb8 i e (by rw [Row.own] at hi; exact hi)
            have fr8 := own_que (A := A7) (b := w.heap.size) fr7 (fy.mono fun _ _ h => .inr h) (Nat.le_refl _) how7
            clear fx fy qr7 qm7 qo7 own8' fr7
            have KS := fun n => sameq (c := c8) (c' := c6) (wide_rd (wide_fr own10 ((Fr.refl (fun _ => False) w11).drewN n) fun _ _ => id)) (wide_rd (mo_none qm8 ((Fr.refl (fun _ => False) w11).drewN n)).row) (by omega)
            have KE := fun n => calls_symm (lenI (que_none qr8 ((Fr.refl (fun _ => False) w11).drewN n)))
            have KC := fun n => calls_symm (capI (que_none qr8 ((Fr.refl (fun _ => False) w11).drewN n)))
            have KD := fun n => calls_symm (lostI (que_none qr8 ((Fr.refl (fun _ => False) w11).drewN n)))
            have m0 := qm8.is.cell 0
            have m1 := qm8.is.cell 1
            have m2 := qm8.is.cell 2
            have hsum : IntKind.i64.wrap ((L2.length : Int) + 1) = (L2.length : Int) + 1 := IntWalk.i64_in _ (by omega)
            go_wp2_with fail
            go_quiet (first | (go_at_call 14; exact Calls.quiet_of (KS _)) | (go_at_call 16; exact Calls.quiet_of_same (KE _)) | (go_at_call 17; exact Calls.quiet_of_same (KC _)) | (go_at_call 18; exact Calls.quiet_of_same (KD _)))
            clear KS KE KC KD hsum
            go_wp2_with fail
            have fq := (Fr.refl (fun _ => False) w11).drewN nq
            go_roundg (l.length - (j + 1))
            case measure => omega
            case rel => exact ⟨j + 1, L2, lost2, by omega, rfl, by go_num, A5, c5, A6, c6, que_none qr8 fq, mo_none qm8 fq, que_none qo8 fq, oA5, oM5, own_fr0 fr8 fq⟩
    · go_wp2_with fail
      refine (lenI qo).mono ?_
      rintro e w5 ⟨rfl, rfl⟩
      go_wp2_with fail
      refine (lostI qo).mono ?_
      rintro e w5 ⟨rfl, rfl⟩
      go_wp2
      go_ret
      exact ⟨rfl, fr.toBelow0⟩
end Go.Proofs.Ytgnbaknmibncmaa

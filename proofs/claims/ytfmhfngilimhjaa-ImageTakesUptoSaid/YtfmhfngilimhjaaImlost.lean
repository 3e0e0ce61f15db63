/- The image's Lost. -/
import Derived.Test.YtfmhfngilimhjaaImx
import Derived.Deep.RegionHeld3
import Derived.Deep.CutRange
namespace Go.Proofs.Ytfmhfngilimhjaa.Im
open Go.RowKit Go.Maps Li

/-- a run of cells of a block, loaded whole -/
theorem run_loadVar_sub {P : Program} (w : World) (g off n : Nat) (t ty : TypeId) (cs : Array Value) (fr : Nat × Nat) (d : TypeDesc) (hg : w.heap[g]? = some (.cells cs t fr))
    (hu : P.underlying ty = some d) (hd : (match d with | .struct _ | .array _ _ => true | _ => false) = true) (hi : (P.info? ty).map (·.size) = some n) (hle : off + n ≤ cs.size) :
    (loadVar ty ⟨g, off, none⟩).run P w = .ok (.agg (cs.extract off (off + n))) w := by
  have hsz : (cs.extract off (off + n)).size = n := by simp; omega
  have hl : (loadCells ⟨g, off, none⟩ (cs.extract off (off + n)).toList.length).run P w = .ok (cs.extract off (off + n)).toList.toArray w :=
    run_loadCells_list (P := P) w ⟨g, off, none⟩ (cs.extract off (off + n)).toList (fun j v hv => by
      have hadd : (⟨g, off, none⟩ : Addr).add j = ⟨g, off + j, none⟩ := by unfold Addr.add; split <;> simp_all
      rw [hadd, cell_of_row w g (off + j) cs t fr hg]
      rw [Array.getElem?_toList, Array.getElem?_extract] at hv
      split at hv
      · exact hv
      · cases hv)
  cases hq : P.info? ty with
  | none => simp [hq] at hi
  | some i =>
    have hs : i.size = n := by simpa [hq] using hi
    have hagg : (isAgg ty).run P w = .ok true w := by
      unfold isAgg
      rw [Sem.run_bind, run_underlying hu w]
      cases d <;> simp_all
    rw [Array.length_toList, hsz, Array.toArray_toList] at hl
    simp [loadVar, Sem.run_bind, hagg, sizeOf, typeInfo, hq, hs, hl]

theorem exec_load {P : Program} {ev : Operand → Value} {o : Oper} {ty : TypeId} {x : Operand} {g off : Nat} {v : Value} {W : World} (ho : o.op = .load ty x) (hx : ev x = .pointer (some ⟨g, off, none⟩)) (h : (loadVar ty ⟨g, off, none⟩).run P W = .ok v W) :
    (execOp ev o).run P W = .ok (.value v) W := by
  unfold execOp
  simp only [ho, hx, Instr.loadAt, Instr.sureAddr, Sem.run_bind, Sem.run_pure, Result.andThen_ok, h]
theorem wpList_value {P : Program} {ops : Array Oper} {Q : Exit → Act → World → Prop} {a : Act} {w w' : World} {rest : List Oper} {o : Oper} {v : Value} (hg : o.guard = none) (h : (execOp a.eval o).run P w = .ok (.value v) w') (k : wpList P ops Q rest (a.put o.dst v) w') : wpList P ops Q (o :: rest) a w := by
  refine wpList_plain hg fun K hK => ?_
  unfold Oper.wp
  rw [h]
  exact hK _ _ k
theorem wpList_skip {P : Program} {ops : Array Oper} {Q : Exit → Act → World → Prop} {a : Act} {w w' : World} {rest : List Oper} {o : Oper} (hg : o.guard = none) (h : (execOp a.eval o).run P w = .ok .skip w') (k : wpList P ops Q rest (a.put o.dst undef) w') : wpList P ops Q (o :: rest) a w := by
  refine wpList_plain hg fun K hK => ?_
  unfold Oper.wp
  rw [h]
  exact hK _ _ k
theorem exec_index {P : Program} {ev : Operand → Value} {o : Oper} {t e : TypeId} {x i : Operand} {cs : Array Value} {j n m : Nat} {d : TypeDesc} {W : World} (ho : o.op = .index t x i) (hx : ev x = .agg cs) (hi : ev i = .int .i64 (j : Nat)) (hu : P.underlying t = some (.array n e)) (hj : j < n)
    (he : P.underlying e = some d) (hd : (match d with | .struct _ | .array _ _ => true | _ => false) = true) (hsz : (P.info? e).map (·.size) = some m) :
    (execOp ev o).run P W = .ok (.value (.agg (cs.extract (j * m) (j * m + m)))) W := by
  cases hq : P.info? e with
  | none => simp [hq] at hsz
  | some y =>
    have hs : y.size = m := by simpa [hq] using hsz
    have hagg : (isAgg e).run P W = .ok true W := by
      unfold isAgg
      rw [Sem.run_bind, run_underlying he W]
      cases d <;> simp_all
    unfold execOp
    simp only [ho, hx, hi]
    simp [Instr.index, asIntOf, run_underlying hu, part, sizeOf, typeInfo, hq, hs, hagg, Sem.run_bind, hj]
def lostL (ks : List Kc) : Int := (ks.map fun k => k.r.lost).sum
theorem lostL_snoc (ks : List Kc) (k : Kc) : lostL (ks ++ [k]) = lostL ks + k.r.lost := by
  unfold lostL
  simp
theorem lostL_bd : ∀ ks : List Kc, (∀ k ∈ ks, 0 ≤ k.r.lost ∧ k.r.lost ≤ 1099511627776) → 0 ≤ lostL ks ∧ lostL ks ≤ (ks.length : Int) * 1099511627776
  | [], _ => by simp [lostL]
  | k :: ks, h => by
    have ih := lostL_bd ks fun x hx => h x (by simp [hx])
    have hk := h k (by simp)
    have e : lostL (k :: ks) = k.r.lost + lostL ks := by simp [lostL]
    rw [e, List.length_cons]
    constructor
    · omega
    · rw [show ((ks.length + 1 : Nat) : Int) * 1099511627776 = (ks.length : Int) * 1099511627776 + 1099511627776 by omega]
      omega
theorem lay_part {cs : Array Value} {ks : List Kc} {C : Te.Cf} (h : Lay cs ks C) (h4 : ks.length = 4) {j : Nat} (hj : j < ks.length) : (cs.extract 0 (0 + 40)).extract (j * 10) (j * 10 + 10) = ks[j].arr := by
  have hs := h.size
  apply Array.ext_getElem?
  intro i
  rw [Array.getElem?_extract, Array.getElem?_extract]
  by_cases hi : i < 10
  · have e := h.at_ j hj i hi
    rw [if_pos (by simp; omega), if_pos (by omega), show 0 + (j * 10 + i) = j * 10 + i by omega, e]
    rw [show ks[j].arr = ks[j].cells.toArray from rfl, List.getElem?_toArray]
  · rw [if_neg (by simp; omega)]
    have : ks[j].arr.size = 10 := rfl
    rw [Array.getElem?_eq_none (by omega)]
set_option maxHeartbeats 2000000 in
theorem lost_any {w : World} {b : Nat} {ks : List Kc} {C : Te.Cf} (h : Im w b ks C) (h4 : ks.length = 4) (hl : ∀ k ∈ ks, 0 ≤ k.r.lost ∧ k.r.lost ≤ 1099511627776) :
    Calls Try.prog 19 #[.pointer (some ⟨b, 0, none⟩)] w fun e w' => e = .returned (.int .i64 (lostL ks)) ∧ Fr (fun _ => False) w w' := by
  obtain ⟨cs, is, lay⟩ := h.is
  have hpart := fun (j : Nat) (hj : j < ks.length) => lay_part lay h4 hj
  have hload := run_loadVar_sub (P := Try.prog) w b 0 40 93 91 cs (0, 0) _ is Try.underlying91 rfl (by kernel_rfl) (by have := lay.size; omega)
  generalize cs.extract 0 (0 + 40) = X at *
  have HP := Lib.hid hpart
  have HL := Lib.hid hload
  have HR : Hid (∀ j (hj : j < ks.length), Rv w ks[j].rb ks[j].r) := Lib.hid fun j hj => (h.ok _ (List.getElem_mem hj)).rv
  have HB := Lib.hid hl
  clear is lay hpart hload h hl
  go_enter Try.func19, Try.ntmps19
  go_upto_region 2 with fail
  refine wp_region_lit ?_
  refine wpList_value rfl (v := .pointer (some ⟨b, 0, none⟩)) (w' := w) (by go_simp) ?_
  simp only [Act.put, List.setIfInBounds_toArray, List.set_cons_succ, List.set_cons_zero]
  refine wpList_value rfl (v := .pointer (some ⟨b, 0, none⟩)) (w' := w) (by go_simp) ?_
  simp only [Act.put, List.setIfInBounds_toArray, List.set_cons_succ, List.set_cons_zero]
  refine wpList_value rfl (v := .pointer (some ⟨b, 0, none⟩)) (w' := w) (by go_simp) ?_
  simp only [Act.put, List.setIfInBounds_toArray, List.set_cons_succ, List.set_cons_zero]
  refine wpList_value rfl (v := .agg X) (w' := w) (exec_load rfl (by rfl) HL.out) ?_
  simp only [Act.put, List.setIfInBounds_toArray, List.set_cons_succ, List.set_cons_zero]
  refine wpList_value rfl (v := .int .i64 0) (w' := w) (by go_simp) ?_
  simp only [Act.put, List.setIfInBounds_toArray, List.set_cons_succ, List.set_cons_zero]
  refine wpList_nil ?_
  clear HL
  go_wp2_with fail
  go_loopw [3, 10] (fun v3 v10 wr => ∃ (j : Nat), j ≤ 4 ∧ v10 = .int .i64 (j : Nat) ∧ v3 = .int .i64 (lostL (ks.take j)) ∧ Fr (fun _ => False) w wr) (fun _ i _ => 4 - (intOf i).toNat)
  case atStart => exact ⟨0, Nat.zero_le _, rfl, rfl, Fr.refl _ _⟩
  case round =>
    obtain ⟨j, hj, rfl, rfl, fr⟩ := hrel
    by_cases hlt : j < ks.length
    · have KL := fun (W : World) (f : Fr (fun _ => False) wr W) => lostr_any (Is.fr (Is.fr (HR.out j hlt) fr id) f id : Rv W ks[j].rb ks[j].r)
      have hm := List.getElem_mem hlt
      have hb := HB.out _ hm
      have hbd := lostL_bd (ks.take j) fun x hx => HB.out x (List.mem_of_mem_take hx)
      have hsn : lostL (ks.take (j + 1)) = lostL (ks.take j) + ks[j].r.lost := by rw [List.take_succ_eq_append_getElem hlt, lostL_snoc]
      have HSN := Lib.hid hsn
      rw [List.length_take] at hbd
      have hbd2 : -9223372036854775808 ≤ lostL (ks.take j) + ks[j].r.lost ∧ lostL (ks.take j) + ks[j].r.lost ≤ 9223372036854775807 := by
        have h1 := hbd.2
        have h2 : ((min j ks.length : Nat) : Int) ≤ 4 := by omega
        have h3 := hb.2
        have h5 := hbd.1
        have h6 := hb.1
        omega
      have HW : Hid (wrap64 (lostL (ks.take j) + ks[j].r.lost) = lostL (ks.take j) + ks[j].r.lost) := Lib.hid (IntWalk.wrap64_in _ hbd2)
      have F1 := Lib.hid ((Fr.refl (fun _ => False) wr).alloc (.cells ks[j].arr 90))
      unfold Kc.arr at F1
      clear hb hbd hbd2 hsn hm
      go_upto_region 4 with fail
      refine wp_region_lit ?_
      refine wpList_value rfl (v := .agg ks[j].arr) (w' := wr) (by
        rw [← HP.out j hlt]
        exact exec_index (n := 4) (m := 10) rfl rfl rfl Try.underlying91 (by omega) Try.underlying90 rfl (by kernel_rfl)) ?_
      simp only [Act.put, List.setIfInBounds_toArray, List.set_cons_succ, List.set_cons_zero]
      unfold Kc.arr
      go_wp2_with (go_at_call 47; refine (KL _ F1.out).mono ?_; rintro e w2 ⟨rfl, rfl⟩; clear KL)
      go_roundw
      case rel =>
        refine ⟨j + 1, by omega, by go_num, ?_, fr.trans F1.out fun _ _ h => h⟩
        rw [HSN.out]
        first | rfl | rw [HW.out]
      case measure => simp [intOf]; omega
    · have e : j = ks.length := by omega
      subst e
      go_wp2_with fail
      go_ret
      refine ⟨?_, fr⟩
      rw [List.take_length]
      rfl
end Go.Proofs.Ytfmhfngilimhjaa.Im

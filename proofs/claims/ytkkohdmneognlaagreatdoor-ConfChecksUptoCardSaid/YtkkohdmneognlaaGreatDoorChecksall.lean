import Derived.Test.YtkkohdmneognlaaGreatDoorMba
import Derived.Deep.RegionHeld3
import Derived.Test.YtkkohdmneognlaaGreatDoorCards
import Derived.Test.YtkkohdmneognlaaGreatDoorTie
/- The walk of ConfChecks. -/
namespace Go.Proofs.YtkkohdmneognlaaGreatDoor
open Go.RowKit

set_option maxRecDepth 100000 in
set_option maxHeartbeats 4000000 in
theorem checks_any (C : Cm) (w : World) (h : C.Ok w) (hR : Rds w) (hP : Pow w) (h64 : Cf64 C.cf) (ht : C.total ≤ 1048576) :
    Calls Tryz.prog 3 #[C.val] w fun e w' => e = .returned (.bool true) ∧ Fr (fun _ => False) w w' := by
  have f0 := (Fr.refl (fun _ => False) w).alloc (.cells C.arr 30)
  have is0 : Is (w.alloc (.cells C.arr 30)) w.heap.size 30 C.arr := Is.new w _ _
  have KL := lives_any (w.alloc (.cells C.arr 30)) (hR.fr f0) (hP.fr f0)
  have hlen : (textM C.cf).length ≤ 1099511627776 := by have := text_most h64; omega
  have KT := fun W (f : Fr (fun _ => False) w W) => rtext_any C W (h.fr f) (hP.fr f) h64 hlen
  have KC := fun W (f : Fr (fun _ => False) w W) => chk_any C W (h.fr f)
  have KD := fun W (f : Fr (fun _ => False) w W) => rck_any C W (h.fr f)
  generalize checkE C.cf = E at *
  have hT : (((⟨(textM C.cf).toArray⟩ : ByteArray).toList == (⟨(textM C.cf).toArray⟩ : ByteArray).toList)) = true := by simp
  generalize (⟨(textM C.cf).toArray⟩ : ByteArray) = T at *
  have hE : (E == E) = true := by simp
  clear h64 ht hlen h hR hP
  unfold Cm.val at KT KC KD ⊢
  unfold Cm.arr at f0 is0 KL KT KC KD ⊢
  go_enter Tryz.func3, Tryz.ntmps3
  go_wp2_with fail
  refine KL.mono ?_
  clear KL
  rintro _ w1 ⟨rfl, f1⟩
  have F1 := fr_nil f0 f1
  have is1 := is0.fr f1 id
  clear f0 is0 f1
  obtain ⟨p0, p1, p2, p3, p4, p5, p6, p7, p8⟩ := conf_cells0 is1
  go_wp2_with fail
  refine (KT _ F1).mono ?_
  rintro _ w2 ⟨rfl, f2⟩
  have F2 := fr_nil F1 f2
  have is2 := is1.fr f2 id
  clear F1 is1 f2 p0 p1 p2 p3 p4 p5 p6 p7 p8
  have HS : Hid (∀ W, Fr (fun _ => False) w2 W → W.cell? ⟨w.heap.size, 0, none⟩ = some (.slice C.A1 C.l.length C.c1) ∧ W.cell? ⟨w.heap.size, 1, none⟩ = some (.slice C.A2 C.js.length C.c2) ∧ W.cell? ⟨w.heap.size, 2, none⟩ = some (.slice C.A3 C.sg.length C.c3) ∧ W.cell? ⟨w.heap.size, 3, none⟩ = some (.slice C.A4 C.cr.length C.c4) ∧ W.cell? ⟨w.heap.size, 4, none⟩ = some (.slice C.A5 C.rs.length C.c5) ∧ W.cell? ⟨w.heap.size, 5, none⟩ = some (.int .i64 C.tm.age) ∧ W.cell? ⟨w.heap.size, 6, none⟩ = some (.int .i64 C.tm.brake) ∧ W.cell? ⟨w.heap.size, 7, none⟩ = some (.int .i64 C.tm.hold) ∧ W.cell? ⟨w.heap.size, 8, none⟩ = some (.int .i64 C.tm.budget)) := Lib.hid fun W fw => conf_cells0 (is2.fr fw id)
  have HG0 := Lib.hid (Fr.refl (fun _ => False) w2).drew
  have HF2 := Lib.hid F2
  have HKT := Lib.hid KT
  have HKC := Lib.hid KC
  have HKD := Lib.hid KD
  have s0 := HS.out _ HG0.out
  clear is2 F2 KT KC KD
  go_upto_region 4 with (fail)
  go_region_held3 (fun W => W.cell? ⟨w.heap.size, 0, none⟩ = some (.slice C.A1 C.l.length C.c1) ∧ W.cell? ⟨w.heap.size, 1, none⟩ = some (.slice C.A2 C.js.length C.c2) ∧ W.cell? ⟨w.heap.size, 2, none⟩ = some (.slice C.A3 C.sg.length C.c3) ∧ W.cell? ⟨w.heap.size, 3, none⟩ = some (.slice C.A4 C.cr.length C.c4) ∧ W.cell? ⟨w.heap.size, 4, none⟩ = some (.slice C.A5 C.rs.length C.c5) ∧ W.cell? ⟨w.heap.size, 5, none⟩ = some (.int .i64 C.tm.age) ∧ W.cell? ⟨w.heap.size, 6, none⟩ = some (.int .i64 C.tm.brake) ∧ W.cell? ⟨w.heap.size, 7, none⟩ = some (.int .i64 C.tm.hold) ∧ W.cell? ⟨w.heap.size, 8, none⟩ = some (.int .i64 C.tm.budget)) (first | with_reducible exact s0 | with_reducible exact s1 | with_reducible exact s2 | with_reducible exact s3) (first | (go_at_call 12; (with_reducible refine (HKC.out _ (fr_nil HF2.out HG0.out)).mono ?_); rintro _ w3 ⟨rfl, f3⟩; have HG1 := Lib.hid (fr_nil HG0.out f3); have s1 := HS.out _ HG1.out; clear f3) | (go_at_call 13; (with_reducible refine (HKD.out _ (fr_nil HF2.out HG1.out)).mono ?_); rintro _ w4 ⟨rfl, f4⟩; have HG2 := Lib.hid (fr_nil HG1.out f4); have s2 := HS.out _ HG2.out; clear f4) | (go_at_call 11; (with_reducible refine (HKT.out _ (fr_nil HF2.out HG2.out)).mono ?_); rintro _ w5 ⟨rfl, f5⟩; have HG3 := Lib.hid (fr_nil HG2.out f5); have s3 := HS.out _ HG3.out; clear f5))
  all_goals
    go_wp2_with fail
    go_ret
    exact ⟨rfl, fr_nil HF2.out HG3.out⟩
end Go.Proofs.YtkkohdmneognlaaGreatDoor
/- ConfChecks (P6.1): which stations are right, and the first thing that is wrong, is what the document says; the configuration stays. For every configuration of bulk at most 1048576 (its text, beyond any machine's memory, is longer than a text may be). The package-level variables that its row lists hold what the program's text lays (the card ties that). -/
namespace Go.Proofs.YtkkohdmneognlaaGreatDoor.confChecks
open Go.ChangeShapes Go.WideShapes Go.ChangeAt Go.RowKit Go.Lib
open Go.ChangeMaps (open_string shut_string)

def wA : Array Value := #[.agg zeroCf]
theorem met (os : Os) : laidMet Tryz.prog Rows.confChecksUptoRow.laid ((laidWorld os).forCall (fun _ _ => 0) ⟨#[], wA, []⟩).memory := laid_met os
theorem witness_row (os : Os) {H : Type} (enc : TypeId × Value → H) :
    (Rows.OpenSpec.upto Rows.confChecksSpec).preRow enc Tryz.prog Tryz.f3 Rows.confChecksUptoRow.domain false Rows.confChecksUptoRow.laid ((laidWorld os).forCall (fun _ _ => 0) ⟨#[], wA, []⟩).memory wA := by
  have hw : (DataW.whole enc Tryz.prog ((laidWorld os).forCall (fun _ _ => 0) ⟨#[], wA, []⟩).memory Tryz.f3.params.toList Rows.confChecksSpec.vars false wA.toList 8).map (fun x => (x.1, x.2.1)) =
      some ([.agg [.nil, .nil, .nil, .nil, .nil, .agg [.lit (.int .i64 0), .lit (.int .i64 0), .lit (.int .i64 0), .lit (.int .i64 0)]]], []) := by kernel_rfl
  obtain ⟨⟨x1, x2, x3⟩, hx, hx1⟩ := Option.map_eq_some_iff.1 hw
  simp only [Prod.mk.injEq] at hx1
  obtain ⟨rfl, rfl⟩ := hx1
  exact OpenSpec.preRow_of_cond 8 hx (by kernel_rfl) (fun k hk => by cases hk; kernel_rfl) (by kernel_rfl) (met os)

set_option maxRecDepth 100000 in
theorem lifted (os : Os) (started : os.Started) (H : Type) (enc : TypeId × Value → H) (F : Stop.Interp) :
    ReturnsInHanded {} Tryz.checked os 3 .any ((Rows.OpenSpec.upto Rows.confChecksSpec).preRow enc Tryz.prog Tryz.f3 Rows.confChecksUptoRow.domain false Rows.confChecksUptoRow.laid) (((Rows.OpenSpec.upto Rows.confChecksSpec).at F).post enc Tryz.prog Tryz.f3 false true false false) := by
  refine returnsInHanded_of_row (C := Tryz.checked) (s := Rows.OpenSpec.upto Rows.confChecksSpec) Tryz.own started (by kernel_rfl) Tryz.func3
    (witness_row_atRef (enc := enc) (C := Tryz.checked) false (laidWorld os) wA rfl (by kernel_rfl) (by kernel_rfl) (by kernel_rfl) (witness_row os enc)) ?_
  intro W base args ds gs before hval0 hW _ hcond hsz0 hL hsh _
  have hval : ∀ (j : Nat) t v, Tryz.f3.params[j]? = some t → args[j]? = some v → Value.okWide Tryz.prog W .any base t v := hval0
  have hsz : (DataW.weightsEach Tryz.prog (Tryz.f3.params.toList ++ (Rows.OpenSpec.upto Rows.confChecksSpec).bare.plain.varTypes Tryz.prog) (ds ++ gs)).all (· ≤ reachBytes) = true := hsz0
  have hW' := hW
  obtain ⟨p, q, hA0, hV, rfl, hfz, hnd⟩ := hW
  have hA : DataW.TrodAll enc Tryz.prog W 0 (fun _ => true) true Tryz.f3.params.toList args.toList ds p := hA0
  rw [Tryz.params3] at hA hval hsz
  obtain ⟨v0, d0, rfl, rfl, h0⟩ := trodAll_one hA
  obtain ⟨rfl, rfl⟩ := trodVars_none hV
  obtain ⟨C, rfl, hin⟩ := open_conf (hval 0 30 v0 rfl rfl) h0
  have hk := hcond _ rfl
  rw [List.append_nil] at hk
  obtain ⟨hok, ht⟩ := small_conf hk hin
  refine (checks_any C W hok (laid_rds hL hsh) (laid_pow hL) (cf64_of hin) ht).mono fun e W' ⟨he, hb⟩ => ?_
  subst he
  exact law_post hW' rfl (by kernel_rfl) (by rw [Tryz.params3]; exact of_decide_eq_true (by kernel_rfl)) rfl rfl rfl hb.toBelow0

theorem said : Rows.ConfChecksUptoSaid :=
  OpenClaim.holds_of_cond 3 Tryz.f3 rfl rfl rfl rfl rfl rfl rfl ⟨rfl, rfl, rfl, rfl, rfl⟩ rfl rfl rfl rfl rfl (by kernel_rfl) Tryz.func3 (by kernel_rfl)
    (of_decide_eq_true (by kernel_rfl)) (by unfold Func.isWrapper; first | (rw [if_pos (by decide +kernel)]; kernel_rfl) | (rw [if_neg (by decide +kernel)]; exact ⟨rfl, rfl⟩))
    (fun os started H enc _ F => by rw [OpenClaim.pre_eq_preRow]; exact lifted os started H enc F)

/-- No parameter wants a stand-in: what the card asks. -/
theorem plain (f : FuncId) (fn : Func) (hf : Tryz.pinned.checked.prog.funcNamed "ballast/ballastlaw06.ConfChecks" = some f) (hfn : Tryz.pinned.checked.prog.funcs[f]? = some fn) :
    true = Tryz.pinned.checked.prog.looks [] ∧ ∀ (j : Nat) t, fn.params[j]? = some t → Tryz.pinned.checked.prog.wantsStandIn t = false := by
  obtain rfl : f = 3 := Option.some.inj ((show Tryz.prog.funcNamed "ballast/ballastlaw06.ConfChecks" = some 3 by kernel_rfl).symm.trans hf) |>.symm
  obtain rfl : fn = Tryz.f3 := (Option.some.inj (Tryz.func3.symm.trans hfn)).symm
  refine ⟨by kernel_rfl, fun j t ht => ?_⟩
  rw [Tryz.params3] at ht
  have hm := Array.mem_of_getElem? ht
  simp only [List.mem_toArray, List.mem_cons, List.not_mem_nil, or_false] at hm
  subst hm
  exact (show Tryz.prog.wantsStandIn 30 = false by kernel_rfl)

theorem proved : Rows.ConfChecksUptoCardSaid :=
  Claim7.holds_tied_plain_at .later [] _ _ _ _ said (fun _ h => by cases h) (by kernel_rfl) (fun _ h => by cases h) confChecksUpto_row_tie rfl ⟨rfl, rfl⟩ (by kernel_rfl) rfl plain (by kernel_rfl)
end Go.Proofs.YtkkohdmneognlaaGreatDoor.confChecks

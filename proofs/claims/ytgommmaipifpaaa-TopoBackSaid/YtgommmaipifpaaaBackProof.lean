/- TopoBack (P5.2 to P5.4): on a right plan a train that turns about at the end of its way goes back through the same sections, each the other way round. For every plan, every section, every end and every list of positions; no condition. -/
import Derived.Test.YtgommmaipifpaaaBack
import Derived.Test.YtgommmaipifpaaaOpen
import Derived.Test.YtgommmaipifpaaaInts
import Derived.Test.YtgommmaipifpaaaLaw
import Derived.SizedLaws
namespace Go.Proofs.Ytgommmaipifpaaa.topoBack
open Go.ChangeShapes Go.WideShapes Go.ChangeAt Go.RowKit
open Go.ChangeMaps (open_string shut_string)

set_option maxRecDepth 100000 in
theorem lifted (os : Os) (started : os.Started) (H : Type) (enc : TypeId × Value → H) :
    ReturnsInHanded {} Try.checked os 7 .any (Rows.topoBackSpec.pre6 enc Try.prog Try.f7 Rows.topoBackRow.domain false) (Rows.topoBackSpec.post enc Try.prog Try.f7 false true false false) := by
  refine returnsInHanded_of_change_sized (C := Try.checked) Try.own started (by kernel_rfl) Try.func7
    (ChangeSpec.witness6 (enc := enc) (C := Try.checked) false ⟨#[], #[.agg #[.slice none 0 0, .slice none 0 0], .agg #[.int .i64 0, .int .i64 0], .slice none 0 0], []⟩ 8 (by kernel_rfl) (by kernel_rfl) (by kernel_rfl) (by kernel_rfl)) ?_
  intro W base args ds gs before hval0 hW hcnd0 hsz0 _
  have hval : ∀ (j : Nat) t v, Try.f7.params[j]? = some t → args[j]? = some v → Value.okWide Try.prog W .any base t v := hval0
  have hW' := hW
  obtain ⟨p, q, hA0, hV, rfl, hfz, hnd⟩ := hW
  have hA : DataW.TrodAll enc Try.prog W 0 (fun _ => true) true Try.f7.params.toList args.toList ds p := hA0
  have hsz : (DataW.weightsEach Try.prog (Try.f7.params.toList ++ Rows.topoBackSpec.plain.varTypes Try.prog) (ds ++ gs)).all (· ≤ reachBytes) = true := hsz0
  rw [Try.params7] at hA hval hsz
  obtain ⟨v0, v1, v2, d0, d1, d2, p0, p1, p2, rfl, rfl, rfl, h0, h1, h2⟩ := trodAll_three hA
  obtain ⟨rfl, rfl⟩ := trodVars_none hV
  obtain ⟨A0, c0, l0, A0b, c0b, j0, da0, db0, rfl, rfl, r0a, r0b, k0a, m0a, k0b, m0b, sa0, sb0⟩ := open_plan (hval 0 25 v0 rfl rfl) h0
  obtain ⟨x1a, x1b, rfl⟩ := open_pair (hval 1 51 v1 rfl rfl) h1
  obtain ⟨A2, c2, l2, rfl, hl2, hd2, k2, m2⟩ := open_list_cap (hval 2 42 v2 rfl rfl) h2
  obtain ⟨n0a, n0b⟩ := plan_sizes hsz (j := 0) rfl rfl sa0 sb0
  unfold maxLen at m0a m0b
  have n2 : l2.length * 8 ≤ 140737488351232 := by
    rcases hd2 with ⟨_, rfl⟩ | ⟨rest, rfl⟩
    · simp
    · have := sized_slice hsz (j := 2) (t := 42) (e := 3) rfl rfl Try.underlying42
      rw [bytes_int, lits_len] at this
      unfold reachBytes at this
      omega
  refine (back_walk x1a x1b W r0a r0b hl2 n0a k0b (by omega) n2).mono fun e W' ⟨he, hb⟩ => ?_
  subst he
  exact law_post hW' rfl (by kernel_rfl) (by rw [Try.params7]; exact of_decide_eq_true (by kernel_rfl)) rfl rfl rfl hb

theorem proved : Rows.TopoBackSaid :=
  OpenClaim.holds_of_wide 7 Try.f7 rfl rfl rfl rfl rfl rfl rfl ⟨rfl, rfl, rfl, rfl, rfl⟩ rfl rfl rfl rfl rfl (by kernel_rfl) Try.func7 (by kernel_rfl)
    (of_decide_eq_true (by kernel_rfl)) (by unfold Func.isWrapper; first | (rw [if_pos (by decide +kernel)]; kernel_rfl) | (rw [if_neg (by decide +kernel)]; exact ⟨rfl, rfl⟩))
    (fun os started H enc _ => lifted os started H enc)
end Go.Proofs.Ytgommmaipifpaaa.topoBack

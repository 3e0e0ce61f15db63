/- LinkTwice (P9.2, P9.3): what a sender sends, one by one, a receiver takes each once, in this order, and none of it a second time; none is lost. For every whole number and every list of texts; no condition. -/
import Derived.Test.YtcencpkoimahbaaTwice
import Derived.Test.YtcencpkoimahbaaTexts
import Derived.SizedLaws
namespace Go.Proofs.Ytcencpkoimahbaa.linkTwice
open Go.ChangeShapes Go.WideShapes Go.ChangeAt Go.RowKit
open Go.ChangeMaps (open_string shut_string)

set_option maxRecDepth 100000 in
theorem lifted (os : Os) (started : os.Started) (H : Type) (enc : TypeId × Value → H) :
    ReturnsInHanded {} Try.checked os 8 .any (Rows.linkTwiceSpec.pre6 enc Try.prog Try.f8 Rows.linkTwiceRow.domain false) (Rows.linkTwiceSpec.post enc Try.prog Try.f8 false true false false) := by
  refine returnsInHanded_of_change_sized (C := Try.checked) Try.own started (by kernel_rfl) Try.func8
    (ChangeSpec.witness6 (enc := enc) (C := Try.checked) false ⟨#[], #[.int .i64 0, .slice none 0 0], []⟩ 8 (by kernel_rfl) (by kernel_rfl) (by kernel_rfl) (by kernel_rfl)) ?_
  intro W base args ds gs before hval0 hW hcnd0 hsz0 _
  have hval : ∀ (j : Nat) t v, Try.f8.params[j]? = some t → args[j]? = some v → Value.okWide Try.prog W .any base t v := hval0
  have hW' := hW
  obtain ⟨p, q, hA0, hV, rfl, hfz, hnd⟩ := hW
  have hA : DataW.TrodAll enc Try.prog W 0 (fun _ => true) true Try.f8.params.toList args.toList ds p := hA0
  have hsz : (DataW.weightsEach Try.prog (Try.f8.params.toList ++ Rows.linkTwiceSpec.plain.varTypes Try.prog) (ds ++ gs)).all (· ≤ reachBytes) = true := hsz0
  rw [Try.params8] at hA hval hsz
  obtain ⟨v0, v1, d0, d1, p0, p1, rfl, rfl, rfl, h0, h1⟩ := trodAll_two hA
  obtain ⟨rfl, rfl⟩ := trodVars_none hV
  obtain ⟨a0, rfl, rfl, rfl, w0⟩ := open_int Try.underlying3 (hval 0 3 v0 rfl rfl) h0
  have b0 : -9223372036854775808 ≤ a0 ∧ a0 ≤ 9223372036854775807 := by
    simp only [Lit.wf, IntKind.min, IntKind.max, IntKind.signed, IntKind.bits, Bool.and_eq_true, decide_eq_true_eq, if_true] at w0
    have := w0.1
    have := w0.2
    omega
  obtain ⟨A1, c1, l1, rfl, hl1, hd1⟩ := open_texts (hval 1 57 v1 rfl rfl) h1
  have n1 : l1.length * 16 ≤ 140737488351232 := by
    rcases hd1 with ⟨_, rfl⟩ | ⟨rest, rfl⟩
    · simp
    · have := sized_slice hsz (j := 1) (t := 57) (e := 9) rfl rfl Try.underlying57
      have e9 : (strs (H := H) l1).length = l1.length := by simp [strs]
      rw [bytes_string, e9] at this
      unfold reachBytes at this
      omega
  refine (twice_walk a0 A1 c1 l1 W hl1 (by omega)).mono fun e W' ⟨he, hb⟩ => ?_
  subst he
  exact law_post hW' rfl (by kernel_rfl) (by rw [Try.params8]; exact of_decide_eq_true (by kernel_rfl)) rfl rfl rfl hb

theorem proved : Rows.LinkTwiceSaid :=
  OpenClaim.holds_of_wide 8 Try.f8 rfl rfl rfl rfl rfl rfl rfl ⟨rfl, rfl, rfl, rfl, rfl⟩ rfl rfl rfl rfl rfl (by kernel_rfl) Try.func8 (by kernel_rfl)
    (of_decide_eq_true (by kernel_rfl)) (by unfold Func.isWrapper; first | (rw [if_pos (by decide +kernel)]; kernel_rfl) | (rw [if_neg (by decide +kernel)]; exact ⟨rfl, rfl⟩))
    (fun os started H enc _ => lifted os started H enc)
end Go.Proofs.Ytcencpkoimahbaa.linkTwice

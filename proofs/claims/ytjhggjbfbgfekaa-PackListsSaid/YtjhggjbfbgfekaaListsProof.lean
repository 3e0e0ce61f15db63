/- PackLists (P1.1; R5): calls that take many things write what one thing after the other would, and the lists stay. For every list of numbers and every list of texts; no condition. -/
import Derived.Test.YtjhggjbfbgfekaaLists
import Derived.Test.YtjhggjbfbgfekaaOpen
import Derived.SizedLaws
namespace Go.Proofs.Ytjhggjbfbgfekaa.packLists
open Go.ChangeShapes Go.WideShapes Go.ChangeAt Go.RowKit

theorem bytesInt : Try.prog.bytesOf 3 = 8 := by kernel_rfl
theorem bytesString : Try.prog.bytesOf 9 = 16 := by kernel_rfl

set_option maxRecDepth 100000 in
theorem lifted (os : Os) (started : os.Started) (H : Type) (enc : TypeId × Value → H) :
    ReturnsInHanded {} Try.checked os 7 .any (Rows.packListsSpec.pre6 enc Try.prog Try.f7 Rows.packListsRow.domain false) (Rows.packListsSpec.post enc Try.prog Try.f7 false true false false) := by
  refine returnsInHanded_of_change_sized (C := Try.checked) Try.own started (by kernel_rfl) Try.func7
    (ChangeSpec.witness6 (enc := enc) (C := Try.checked) false ⟨#[], #[.slice none 0 0, .slice none 0 0], []⟩ 8 (by kernel_rfl) (by kernel_rfl) (by kernel_rfl) (by kernel_rfl)) ?_
  intro W base args ds gs before hval0 hW hcnd0 hsz0 _
  have hval : ∀ (j : Nat) t v, Try.f7.params[j]? = some t → args[j]? = some v → Value.okWide Try.prog W .any base t v := hval0
  have hW' := hW
  obtain ⟨p, q, hA0, hV, rfl, hfz, hnd⟩ := hW
  have hA : DataW.TrodAll enc Try.prog W 0 (fun _ => true) true Try.f7.params.toList args.toList ds p := hA0
  have hsz : (DataW.weightsEach Try.prog (Try.f7.params.toList ++ Rows.packListsSpec.plain.varTypes Try.prog) (ds ++ gs)).all (· ≤ reachBytes) = true := hsz0
  rw [Try.params7] at hA hval hsz
  obtain ⟨v0, v1, d0, d1, p0, p1, rfl, rfl, rfl, h0, h1⟩ := trodAll_two hA
  obtain ⟨rfl, rfl⟩ := trodVars_none hV
  obtain ⟨A, c, l, rfl, hl, hd⟩ := open_list (hval 0 56 v0 rfl rfl) h0
  obtain ⟨A', c', l', rfl, hl', hd'⟩ := open_texts (hval 1 57 v1 rfl rfl) h1
  have k0 : l.length * 8 ≤ 140737488351232 := by
    rcases hd with ⟨_, rfl⟩ | ⟨es, rest, rfl, he⟩
    · simp
    · have := sized_slice hsz (j := 0) (t := 56) (e := 3) rfl rfl Try.underlying56
      rw [bytesInt, he] at this
      unfold reachBytes at this
      omega
  have k1 : l'.length * 16 ≤ 140737488351232 := by
    rcases hd' with ⟨_, rfl⟩ | ⟨es, rest, rfl, he⟩
    · simp
    · have := sized_slice hsz (j := 1) (t := 57) (e := 9) rfl rfl Try.underlying57
      rw [bytesString, he] at this
      unfold reachBytes at this
      omega
  refine (lists_walk A c l A' c' l' W hl hl' k0 k1).mono fun e W' ⟨he, hb⟩ => ?_
  subst he
  exact law_post hW' rfl (by kernel_rfl) (by rw [Try.params7]; exact of_decide_eq_true (by kernel_rfl)) rfl rfl rfl hb

theorem proved : Rows.PackListsSaid :=
  OpenClaim.holds_of_wide 7 Try.f7 rfl rfl rfl rfl rfl rfl rfl ⟨rfl, rfl, rfl, rfl, rfl⟩ rfl rfl rfl rfl rfl (by kernel_rfl) Try.func7 (by kernel_rfl)
    (of_decide_eq_true (by kernel_rfl)) (by unfold Func.isWrapper; first | (rw [if_pos (by decide +kernel)]; kernel_rfl) | (rw [if_neg (by decide +kernel)]; exact ⟨rfl, rfl⟩))
    (fun os started H enc _ => lifted os started H enc)
end Go.Proofs.Ytjhggjbfbgfekaa.packLists

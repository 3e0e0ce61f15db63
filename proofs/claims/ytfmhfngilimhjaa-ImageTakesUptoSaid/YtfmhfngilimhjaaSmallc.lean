/- What is read is of small bulk: a configuration. -/
import Derived.Test.YtfmhfngilimhjaaImw
namespace Go.Proofs.Ytfmhfngilimhjaa.Im
open Go.RowKit

theorem bulk_len {H : Type} : ∀ es : List (DataW H), es.length ≤ Rows.uptoBulkAll es
  | [] => Nat.le_refl _
  | d :: r => by
    have ih := bulk_len r
    have h1 : 1 ≤ Rows.uptoBulk d := by
      cases d with
      | lit l => cases l <;> simp [Rows.uptoBulk]
      | _ => simp [Rows.uptoBulk]
    simp only [Rows.uptoBulkAll, List.length_cons]
    omega
theorem sl_small {H : Type} {d : DataW H} {n b : Nat} (h : Te.SL d n) (hb : Rows.uptoBulk d ≤ b) : n ≤ b := by
  rcases h with ⟨_, rfl⟩ | ⟨es, rest, rfl, rfl⟩
  · exact Nat.zero_le _
  · have := bulk_len es
    simp only [Rows.uptoBulk] at hb
    omega
theorem small_conf {H : Type} {w : World} {C : Te.Cf} {d : DataW H} {ds : List (DataW H)} (hk : Rows.uptoSmall H (d :: ds) = true) (h : Te.CfIn w C d) : C.Ok w ∧ Small C := by
  have hk2 : Rows.uptoBulkAll (d :: ds) ≤ 1048576 := of_decide_eq_true hk
  obtain ⟨d1, d2, d3, d4, d5, d6, rfl, s1, s3, s4⟩ := h.data
  simp only [Rows.uptoBulkAll, Rows.uptoBulk] at hk2
  have a := sl_small s1 (b := 1048576) (by omega)
  have b := sl_small s3 (b := 1048576) (by omega)
  have c := sl_small s4 (b := 1048576) (by omega)
  exact ⟨⟨h.secs, h.sigs, h.crs, by omega, by omega, by omega⟩, a, c, b⟩
theorem toB {P : Program} {f : FuncId} {args : Array Value} {W : World} {v : Ending} (h : Calls P f args W fun e w' => e = v ∧ Fr (fun _ => False) W w') : Calls P f args W fun e w' => e = v ∧ Below W.heap.size W w' :=
  h.mono fun _ _ k => ⟨k.1, k.2.toBelow0⟩
end Go.Proofs.Ytfmhfngilimhjaa.Im

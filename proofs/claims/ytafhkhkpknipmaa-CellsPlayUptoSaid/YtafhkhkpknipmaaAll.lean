/- The law's own all: the parts, one behind the other. -/
import Derived.Test.YtafhkhkpknipmaaRagain
import Derived.Test.YtafhkhkpknipmaaApp
import Derived.Lib.AppendStr
namespace Go.Proofs.Ytafhkhkpknipmaa
open Go.RowKit Go.Maps

theorem strCells_B (s : ByteArray) : Lib.strCells s = (bytesOf s).map B := rfl
set_option maxHeartbeats 4000000 in
theorem all_any {w : World} {A : Option Addr} {c : Nat} {xs : List ByteArray} (h : Rd w A (xs.map Value.string)) (hlen : xs.length ≤ 140737488355328) (hT : (jn xs).length ≤ 140737488355328) :
    Calls Try.prog 14 #[.slice A xs.length c] w fun e w' => e = .returned (.string ⟨(jn xs).toArray⟩) ∧ Fr (fun _ => False) w w' := by
  obtain ⟨i0, hi0, hz0, hz1, hz2⟩ := info_parts Try.infoB
  go_enter Try.func14, Try.ntmps14
  go_wp2
  go_loopw [3, 5, 8] (fun v _ i wr => ∃ k : Nat, k ≤ xs.length ∧ i = .int .i64 k ∧ wr.ownsRow w.heap.size 5 1 v (jn (xs.take k)).length ((jn (xs.take k)).map B) ∧ Fr (fun _ => False) w wr) (fun _ _ i _ => xs.length - (intOf i).toNat)
  case atStart => exact ⟨0, Nat.zero_le _, rfl, World.ownsRow_nil _ _ _ _, Fr.refl _ _⟩
  case round =>
    obtain ⟨k, hk, rfl, hO, hF⟩ := hrel
    by_cases hlt : k < xs.length
    · have hs := jn_snoc xs k hlt
      have hle := jn_take_le xs (k + 1)
      rw [hs, List.length_append, bytesOf_length] at hle
      have HS := Lib.hid hs
      obtain ⟨b, o, rfl, hb, hcell⟩ := h (by rw [List.length_map]; omega)
      have hc : wr.cell? ⟨b, o + k, none⟩ = some (.string xs[k]) := (hF.cell (p := ⟨b, o + k, none⟩) hb id).trans (hcell k (.string xs[k]) (by rw [List.getElem?_map, List.getElem?_eq_getElem hlt]; rfl))
      have HF := Lib.hid hF
      have hbase : w.heap.size ≤ wr.heap.size := hF.size
      clear hs h hcell hF
      generalize xs[k] = x at HS hc hle
      go_wp2_with (at_builtin; refine Lib.wpList_append_own_string _ rfl (.tmp 12) (.tmp 13) 53 9 rfl w.heap.size 5 i0 Try.underlying53 Try.underlying9 hi0 hz0 hz1 hz2 _ (jn (xs.take k)).length ((jn (xs.take k)).map B) (by simp [Act.eval]) hO x (by simp [Act.eval]) (by unfold maxLen; omega) (by omega) hbase ?_; intro v' w1 hown hg _; have HO := Lib.hid hown; have HG := Lib.hid hg; clear hown hg)
      go_roundw
      case rel =>
        refine ⟨k + 1, by omega, by go_num, ?_, ?_⟩
        · have := HO.out
          rw [strCells_B, ← List.map_append, ← HS.out] at this
          rw [show (jn (xs.take k)).length + x.size = (jn (xs.take (k + 1))).length by rw [HS.out, List.length_append, bytesOf_length]] at this
          exact this
        · exact HF.out.grown HG.out fun j hj => .inr (World.ownsRow.lt hO j hj).1
      case measure => simp [intOf]; omega
    · have hkn : k = xs.length := by omega
      subst hkn
      rw [List.take_length] at hO
      have ht := own_text hO Try.underlying53 Try.underlying5 Try.underlying9
      have HF := Lib.hid hF
      clear hF hO hlt
      go_wp2
      go_ret
      exact ⟨rfl, HF.out⟩
end Go.Proofs.Ytafhkhkpknipmaa

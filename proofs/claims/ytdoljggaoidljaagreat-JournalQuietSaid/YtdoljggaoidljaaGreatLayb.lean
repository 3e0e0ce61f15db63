/- Contracts over rows of bytes: layBare, bareFrom; isPage, size. -/
import Derived.Test.YtdoljggaoidljaaGreatCell
import Derived.Test.YtdoljggaoidljaaGreatWide
import Derived.Deep.LoopGhost
namespace Go.Proofs.YtdoljggaoidljaaGreat
open Go.RowKit

theorem setCells_snoc {b : Nat} : ∀ (vs : List Value) (o : Nat) (w : World) (v : Value), w.setCells b o (vs ++ [v]) = (w.setCells b o vs).setCell ⟨b, o + vs.length, none⟩ v
  | [], _, _, _ => rfl
  | u :: r, o, w, v => by
    rw [List.cons_append, World.setCells, setCells_snoc r (o + 1) _ v, World.setCells, List.length_cons, show o + 1 + r.length = o + (r.length + 1) by omega]
theorem setCells_rep {b o k : Nat} (w : World) (v : Value) : w.setCells b o (List.replicate (k + 1) v) = (w.setCells b o (List.replicate k v)).setCell ⟨b, o + k, none⟩ v := by
  rw [List.replicate_succ', setCells_snoc, List.length_replicate]

set_option maxHeartbeats 400000 in
theorem layBare_any {w : World} {b o n c : Nat} {t : TypeId} {cs : Array Value} (h : Is w b t cs) (hn : o + n ≤ cs.size) (hm : n ≤ 4096) :
    Calls Tryz.prog 18 #[.slice (some ⟨b, o, none⟩) n c] w fun e w' => e = .returned (.tuple #[]) ∧ w' = w.setCells b o (List.replicate n (.int .u8 255)) := by
  go_enter Tryz.func18, Tryz.ntmps18
  go_wp2
  go_loopw [2, 5] (fun _ i wr => ∃ k : Nat, k ≤ n ∧ i = .int .i64 k ∧ wr = w.setCells b o (List.replicate k (.int .u8 255))) (fun _ i _ => n - (intOf i).toNat)
  case atStart => exact ⟨0, Nat.zero_le _, rfl, rfl⟩
  case round =>
    obtain ⟨k, hk, rfl, hw⟩ := hrel
    have his : Is wr b t (splice cs o (List.replicate k (.int .u8 255))) := hw ▸ Is.setCells _ _ _ _ h
    have hsz : (splice cs o (List.replicate k (Value.int .u8 255))).size = cs.size := splice_size _ _ _
    by_cases hlt : k < n
    · obtain ⟨u, hu⟩ : ∃ u, (splice cs o (List.replicate k (Value.int .u8 255)))[o + k]? = some u := ⟨_, Array.getElem?_eq_getElem (by omega)⟩
      have hc : wr.cell? ⟨b, o + k, none⟩ = some u := (his.cell _).trans hu
      have hf : wr.frozen? ⟨b, o + k, none⟩ = false := his.frozen _
      have HW := Lib.hid hw
      clear hw h his hsz hu
      go_wp2
      go_roundw
      case rel => exact ⟨k + 1, by omega, by go_num, by rw [setCells_rep, ← HW.out]⟩
      case measure => simp [intOf]; omega
    · have hkn : k = n := by omega
      subst hkn
      have HW := Lib.hid hw
      clear hw h his hsz
      go_wp2
      go_end0
      exact ⟨rfl, HW.out⟩
end Go.Proofs.YtdoljggaoidljaaGreat

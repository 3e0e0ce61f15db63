/- The contract of New. -/
import Derived.Test.YtdoljggaoidljaaGreatErase
import Derived.Test.YtdoljggaoidljaaGreatZero
namespace Go.Proofs.YtdoljggaoidljaaGreat
open Go.RowKit Go.Maps

/-- the cells of a new memory of which the first k pages are laid bare -/
structure AtN (cs : Array Value) (k : Nat) : Prop where
  size : cs.size = 98332
  c0 : cs[0]? = some (.int .i64 0)
  c1 : cs[1]? = some (.int .i64 0)
  c2 : cs[2]? = some (.map none)
  c3 : cs[3]? = some (.bool false)
  pg : ∀ p i, p < k → i < 4096 → cs[4 + p * 4096 + i]? = some (.int .u8 255)
  worn : ∀ p, p < 24 → cs[98308 + p]? = some (.int .i64 0)
theorem atN_zero {zs : Array Value} (hs : zs.size = 98332) (ht : zs.toList.take 4 = [.int .i64 0, .int .i64 0, .map none, .bool false]) (hd : zs.toList.drop 98308 = List.replicate 24 (.int .i64 0)) : AtN zs 0 := by
  have h4 : ∀ i, i < 4 → zs[i]? = (zs.toList.take 4)[i]? := fun i hi => by rw [List.getElem?_take, if_pos hi, Array.getElem?_toList]
  refine ⟨hs, ?_, ?_, ?_, ?_, fun p i hp => by omega, fun p hp => ?_⟩
  · rw [h4 0 (by omega), ht]; rfl
  · rw [h4 1 (by omega), ht]; rfl
  · rw [h4 2 (by omega), ht]; rfl
  · rw [h4 3 (by omega), ht]; rfl
  · have : zs[98308 + p]? = (zs.toList.drop 98308)[p]? := by rw [List.getElem?_drop, Array.getElem?_toList]
    rw [this, hd, List.getElem?_replicate, if_pos hp]
theorem atN_next {cs : Array Value} {k : Nat} (h : AtN cs k) (hk : k < 24) : AtN (splice cs (4 + k * 4096) (List.replicate 4096 (.int .u8 255))) (k + 1) := by
  have hs : 4 + k * 4096 + (List.replicate 4096 (Value.int .u8 255)).length ≤ cs.size := by rw [h.size, List.length_replicate]; omega
  have out : ∀ i, (i < 4 + k * 4096 ∨ 4 + k * 4096 + 4096 ≤ i) → (splice cs (4 + k * 4096) (List.replicate 4096 (Value.int .u8 255)))[i]? = cs[i]? := fun i hi => by
    rw [splice_at _ _ _ _ hs, if_neg (by rw [List.length_replicate]; omega)]
  refine ⟨by rw [splice_size, h.size], (out 0 (by omega)).trans h.c0, (out 1 (by omega)).trans h.c1, (out 2 (by omega)).trans h.c2, (out 3 (by omega)).trans h.c3, fun p i hp hi => ?_, fun p hp => (out _ (by omega)).trans (h.worn p hp)⟩
  by_cases e : p = k
  · subst e
    rw [splice_at _ _ _ _ hs, if_pos (by rw [List.length_replicate]; omega), List.getElem?_replicate, if_pos (by omega)]
  · rw [out _ (by omega), h.pg p i (by omega) hi]
theorem mem_new {w : World} {b : Nat} {cs : Array Value} (hi : Is w b 62 cs) (h : AtN cs 24) : Mem w b none Mm.new :=
  ⟨⟨cs, hi, ⟨h.size, h.c0, h.c1, h.c3, fun p i hp hi => h.pg p i hp hi, fun p hp => h.worn p hp⟩, h.c2⟩, fun _ _ => rfl, Nat.le_refl _, by show 0 ≤ _; omega, (by intro e; cases e), fun k hk => (by cases hk)⟩

theorem lay_page {w w1 : World} {b k : Nat} {cs : Array Value} (hi : Is w1 b 62 cs) (hA : AtN cs k) (hk : k < 24) (hF : Fr (fun _ => False) w w1) (hb : w.heap.size ≤ b) :
    Calls Tryz.prog 18 #[.slice (some ⟨b, 4 + k * 4096, none⟩) 4096 4096] w1 fun e w' => e = .returned (.tuple #[]) ∧ (∃ cs, Is w' b 62 cs ∧ AtN cs (k + 1)) ∧ Fr (fun _ => False) w w' :=
  (layBare_any (o := 4 + k * 4096) (n := 4096) (c := 4096) hi (by rw [hA.size]; omega) (Nat.le_refl _)).mono fun e w' ⟨he, hw⟩ => ⟨he, ⟨_, hw ▸ Is.setCells _ _ _ _ hi, atN_next hA hk⟩, hw ▸ Fr.setCells _ _ hF (.inr hb)⟩

set_option maxHeartbeats 1000000 in
theorem new_any (w : World) : Calls Tryz.prog 8 #[] w fun e w' => e = .returned (.pointer (some ⟨w.heap.size, 0, none⟩)) ∧ Mem w' w.heap.size none Mm.new ∧ Fr (fun _ => False) w w' := by
  obtain ⟨zs, hz, hs, ht, hd⟩ := zero_mem
  have A0 := Lib.hid (atN_zero hs ht hd)
  have hne : ¬ zs = #[] := fun e => by rw [e] at hs; cases hs
  clear hs ht hd
  go_enter Tryz.func8, Tryz.ntmps8
  go_wp2
  go_loopw [2, 5] (fun _ i wr => ∃ k : Nat, k ≤ 24 ∧ i = .int .i64 k ∧ (∃ cs, Is wr w.heap.size 62 cs ∧ AtN cs k) ∧ Fr (fun _ => False) w wr) (fun _ i _ => 24 - (intOf i).toNat)
  case atStart => exact ⟨0, Nat.zero_le _, rfl, ⟨zs, Is.new w _ _, A0.out⟩, (Fr.refl _ w).alloc _⟩
  case round =>
    obtain ⟨k, hk, rfl, ⟨cs, hi, hA⟩, hF⟩ := hrel
    clear hz hne
    have HF := Lib.hid hF
    have HI := Lib.hid hi
    have HA := Lib.hid hA
    by_cases hlt : k < 24
    · have hs := hA.size
      have KL := Lib.hid (lay_page hi hA hlt hF (Nat.le_refl _))
      clear hF hi hA hs
      go_wp2_with (go_at_call 18; refine KL.out.mono ?_; rintro e w1 ⟨rfl, hr1, hF1⟩; have HR1 := Lib.hid hr1; have HF1 := Lib.hid hF1; clear hr1 hF1)
      go_roundw
      case rel => exact ⟨k + 1, by omega, by go_num, HR1.out, HF1.out⟩
      case measure => simp [intOf]; omega
    · have hk24 : k = 24 := by omega
      subst hk24
      clear hF hi hA
      go_wp2
      go_ret
      exact ⟨rfl, mem_new HI.out HA.out, HF.out⟩
end Go.Proofs.YtdoljggaoidljaaGreat

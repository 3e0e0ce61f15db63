/- Contracts and plain mathematics of earlier stages: Lsm. -/
import Derived.Test.YtnnacdkijeoeoaaLp
import Derived.Test.YtnnacdkijeoeoaaKv
namespace Go.Proofs.Ytnnacdkijeoeoaa.Lk
open Go.RowKit

def smS : List Sec := [⟨0, 0, 0⟩, ⟨1, 0, 0⟩, ⟨0, 0, 0⟩, ⟨0, 0, 0⟩, ⟨0, 0, 1⟩]
def smJ : List Jo := [⟨0, 1, 1, 0⟩, ⟨1, 1, 2, 0⟩, ⟨1, 2, 3, 0⟩, ⟨2, 1, 4, 0⟩]
def smG : List Sg := [⟨0, 1⟩, ⟨2, 1⟩]
def smF : Cf := ⟨smS, smJ, smG, [], [⟨0, 1, [⟨1, 0, 1⟩, ⟨2, 0, 1⟩], [], [], false⟩, ⟨1, -1, [⟨4, 0, 1⟩], [], [], false⟩], ⟨2, 1, 4, 1000⟩⟩
theorem sm_check : checkE smF = 0 := by kernel_rfl
def smC (b : Nat) : Cm := ⟨some ⟨b, 0, none⟩, 5, smS, some ⟨b + 1, 0, none⟩, 4, smJ, some ⟨b + 2, 0, none⟩, 2, smG, none, 0, [], some ⟨b + 5, 0, none⟩, 2,
  [⟨0, 1, some ⟨b + 3, 0, none⟩, 2, [⟨1, 0, 1⟩, ⟨2, 0, 1⟩], none, 0, [], none, 0, [], false⟩, ⟨1, -1, some ⟨b + 4, 0, none⟩, 1, [⟨4, 0, 1⟩], none, 0, [], none, 0, [], false⟩], ⟨2, 1, 4, 1000⟩⟩
theorem smC_cf (b : Nat) : (smC b).cf = smF := rfl

def smW (w : World) : World := (((((((w.alloc (.cells (smC (w.heap.size + 1)).arr 30)).alloc (.cells (cellsS smS).toArray 73)).alloc (.cells (cellsJ smJ).toArray 75)).alloc (.cells (cellsG smG).toArray 77)).alloc (.cells (cellsT [⟨1, 0, 1⟩, ⟨2, 0, 1⟩]).toArray 79)).alloc (.cells (cellsT [⟨4, 0, 1⟩]).toArray 79)).alloc (.cells (cellsR (smC (w.heap.size + 1)).rs).toArray 83))
theorem smW_fr (w : World) : Fr (fun _ => False) w (smW w) := ((((((((Fr.refl (fun _ => False) _).alloc _).alloc _).alloc _).alloc _).alloc _).alloc _).alloc _)
theorem smW_cf (w : World) : Is (smW w) w.heap.size 30 (smC (w.heap.size + 1)).arr := (Is.new w _ _).fr (((((((Fr.refl (fun _ => False) _).alloc _).alloc _).alloc _).alloc _).alloc _).alloc _) id
theorem smW_ok (w : World) : (smC (w.heap.size + 1)).Ok (smW w) := by
  have r1 : Rd (smW w) (some ⟨w.heap.size + 1, 0, none⟩) (cellsS smS) := (lit_rd_at (by simp) (cellsS smS) _).fr ((((((Fr.refl (fun _ => False) _).alloc _).alloc _).alloc _).alloc _).alloc _) fun _ _ => id
  have r2 : Rd (smW w) (some ⟨w.heap.size + 2, 0, none⟩) (cellsJ smJ) := (lit_rd_at (by simp) (cellsJ smJ) _).fr (((((Fr.refl (fun _ => False) _).alloc _).alloc _).alloc _).alloc _) fun _ _ => id
  have r3 : Rd (smW w) (some ⟨w.heap.size + 3, 0, none⟩) (cellsG smG) := (lit_rd_at (by simp) (cellsG smG) _).fr ((((Fr.refl (fun _ => False) _).alloc _).alloc _).alloc _) fun _ _ => id
  have r4 : Rd (smW w) (some ⟨w.heap.size + 4, 0, none⟩) (cellsT [⟨1, 0, 1⟩, ⟨2, 0, 1⟩]) := (lit_rd_at (by simp) (cellsT [⟨1, 0, 1⟩, ⟨2, 0, 1⟩]) _).fr (((Fr.refl (fun _ => False) _).alloc _).alloc _) fun _ _ => id
  have r5 : Rd (smW w) (some ⟨w.heap.size + 5, 0, none⟩) (cellsT [⟨4, 0, 1⟩]) := (lit_rd_at (by simp) (cellsT [⟨4, 0, 1⟩]) _).fr ((Fr.refl (fun _ => False) _).alloc _) fun _ _ => id
  have r6 : Rd (smW w) (some ⟨w.heap.size + 6, 0, none⟩) (cellsR (smC (w.heap.size + 1)).rs) := lit_rd_at (by simp) (cellsR (smC (w.heap.size + 1)).rs) _
  have nr : ∀ {xs : List Value}, xs = [] → Rd (smW w) none xs := fun e h => by rw [e] at h; simp at h
  refine ⟨r1, r2, r3, nr rfl, r6, ?_, by simp [smC, smS, smJ, smG], by simp [smC, smS, smJ, smG], by simp [smC, smS, smJ, smG], by simp [smC, smS, smJ, smG], by simp [smC, smS, smJ, smG], by simp [smC, smS, smJ, smG], by simp [smC, smS, smJ, smG], by simp [smC, smS, smJ, smG], by simp [smC, smS, smJ, smG], by simp [smC, smS, smJ, smG], by simp [smC, smS, smJ, smG], by simp [smC, smS, smJ, smG], by simp [smC, smS, smJ, smG], by simp [smC, smS, smJ, smG], by simp [smC, smS, smJ, smG]⟩
  intro r hr
  simp only [smC, List.mem_cons, List.not_mem_nil, or_false] at hr
  rcases hr with rfl | rfl
  · exact ⟨r4, nr rfl, nr rfl, by simp, by simp, by simp, by simp, by simp, by simp, by simp, by simp, by simp⟩
  · exact ⟨r5, nr rfl, nr rfl, by simp, by simp, by simp, by simp, by simp, by simp, by simp, by simp, by simp⟩
end Go.Proofs.Ytnnacdkijeoeoaa.Lk


/- The chapter's station, and the laws' first line. -/
import Derived.Test.YtkkohdmneognlaaGreatDoorMas
import Derived.Lib.LaidTab
import Derived.Lib.LaidU8
import Derived.Stop.LaidErr
import Derived.Deep.DeepHandedRow
import Derived.Test.YtkkohdmneognlaaGreatDoorRows
import Derived.ProofKit
import Derived.OpenShut
import Derived.Carry
import Derived.Below
import Derived.SizedLaws
import Derived.SliceStrings
namespace Go.Proofs.YtkkohdmneognlaaGreatDoor
open Go.RowKit

def smS : List Sec := [⟨0, 0, 0⟩, ⟨1, 0, 0⟩, ⟨0, 0, 0⟩, ⟨0, 0, 0⟩, ⟨0, 0, 1⟩]
def smJ : List Jo := [⟨0, 1, 1, 0⟩, ⟨1, 1, 2, 0⟩, ⟨1, 2, 3, 0⟩, ⟨2, 1, 4, 0⟩]
def smG : List Sg := [⟨0, 1⟩, ⟨2, 1⟩]
def smF : Cf := ⟨smS, smJ, smG, [], [⟨0, 1, [⟨1, 0, 1⟩, ⟨2, 0, 1⟩], [], [], false⟩, ⟨1, -1, [⟨4, 0, 1⟩], [], [], false⟩], ⟨2, 1, 4, 1000⟩⟩
theorem sm_check : checkE smF = 0 := by kernel_rfl
theorem sm_read : rdErr (textM smF) = 0 ∧ rdCf (textM smF) = smF := by
  have h : Cf64 smF := by
    refine ⟨?_, ?_, ?_, ?_, ?_, ?_⟩ <;> unfold In64 smF <;> decide
  unfold rdErr rdCf
  rw [read_text smF h, if_pos rfl, if_pos rfl]
  exact ⟨rfl, rfl⟩
def smC (b : Nat) : Cm := ⟨some ⟨b, 0, none⟩, 5, smS, some ⟨b + 1, 0, none⟩, 4, smJ, some ⟨b + 2, 0, none⟩, 2, smG, none, 0, [], some ⟨b + 5, 0, none⟩, 2,
  [⟨0, 1, some ⟨b + 3, 0, none⟩, 2, [⟨1, 0, 1⟩, ⟨2, 0, 1⟩], none, 0, [], none, 0, [], false⟩, ⟨1, -1, some ⟨b + 4, 0, none⟩, 1, [⟨4, 0, 1⟩], none, 0, [], none, 0, [], false⟩], ⟨2, 1, 4, 1000⟩⟩
theorem smC_cf (b : Nat) : (smC b).cf = smF := rfl

def smW (w : World) : World := (((((((w.alloc (.cells (smC (w.heap.size + 1)).arr 30)).alloc (.cells (cellsS smS).toArray 62)).alloc (.cells (cellsJ smJ).toArray 69)).alloc (.cells (cellsG smG).toArray 56)).alloc (.cells (cellsT [⟨1, 0, 1⟩, ⟨2, 0, 1⟩]).toArray 45)).alloc (.cells (cellsT [⟨4, 0, 1⟩]).toArray 45)).alloc (.cells (cellsR (smC (w.heap.size + 1)).rs).toArray 43))
theorem smW_fr (w : World) : Fr (fun _ => False) w (smW w) := ((((((((Fr.refl (fun _ => False) _).alloc _).alloc _).alloc _).alloc _).alloc _).alloc _).alloc _)
theorem smW_cf (w : World) : Is (smW w) w.heap.size 30 (smC (w.heap.size + 1)).arr := (Is.new w _ _).fr (((((((Fr.refl (fun _ => False) _).alloc _).alloc _).alloc _).alloc _).alloc _).alloc _) id
theorem smW_ok (w : World) : (smC (w.heap.size + 1)).Ok (smW w) := by
  have r1 : Rd (smW w) (some ⟨w.heap.size + 1, 0, none⟩) (cellsS smS) := (lit_rd_at (by simp) (cellsS smS) _).fr ((((((Fr.refl (fun _ => False) _).alloc _).alloc _).alloc _).alloc _).alloc _) fun _ _ => id
  have r2 : Rd (smW w) (some ⟨w.heap.size + 2, 0, none⟩) (cellsJ smJ) := (lit_rd_at (by simp) (cellsJ smJ) _).fr (((((Fr.refl (fun _ => False) _).alloc _).alloc _).alloc _).alloc _) fun _ _ => id
  have r3 : Rd (smW w) (some ⟨w.heap.size + 3, 0, none⟩) (cellsG smG) := (lit_rd_at (by simp) (cellsG smG) _).fr ((((Fr.refl (fun _ => False) _).alloc _).alloc _).alloc _) fun _ _ => id
  have r4 : Rd (smW w) (some ⟨w.heap.size + 4, 0, none⟩) (cellsT [⟨1, 0, 1⟩, ⟨2, 0, 1⟩]) := (lit_rd_at (by simp) (cellsT [⟨1, 0, 1⟩, ⟨2, 0, 1⟩]) _).fr (((Fr.refl (fun _ => False) _).alloc _).alloc _) fun _ _ => id
  have r5 : Rd (smW w) (some ⟨w.heap.size + 5, 0, none⟩) (cellsT [⟨4, 0, 1⟩]) := (lit_rd_at (by simp) (cellsT [⟨4, 0, 1⟩]) _).fr ((Fr.refl (fun _ => False) _).alloc _) fun _ _ => id
  have r6 : Rd (smW w) (some ⟨w.heap.size + 6, 0, none⟩) (cellsR (smC (w.heap.size + 1)).rs) := lit_rd_at (by simp) (cellsR (smC (w.heap.size + 1)).rs) _
  have nr : ∀ {xs : List Value}, xs = [] → Rd (smW w) none xs := fun e h => by rw [e] at h; simp at h
  refine ⟨r1, r2, r3, nr rfl, r6, ?_, by simp [smC, smS, smJ, smG], by simp [smC, smS, smJ, smG], by simp [smC, smS, smJ, smG], by simp [smC, smS, smJ, smG], by simp [smC, smS, smJ, smG], by simp [smC, smS, smJ, smG], by simp [smC, smS, smJ, smG], by simp [smC, smS, smJ, smG], by simp [smC, smS, smJ, smG], by simp [smC, smS, smJ, smG], by simp [smC, smS, smJ, smG], by simp [smC, smS, smJ, smG], by simp [smC, smS, smJ, smG], by simp [smC, smS, smJ, smG], by simp [smC, smS, smJ, smG]⟩
  intro r hr
  simp only [smC, List.mem_cons, List.not_mem_nil, or_false] at hr
  rcases hr with rfl | rfl
  · exact ⟨r4, nr rfl, nr rfl, by simp, by simp, by simp, by simp, by simp, by simp, by simp, by simp, by simp⟩
  · exact ⟨r5, nr rfl, nr rfl, by simp, by simp, by simp, by simp, by simp, by simp, by simp, by simp, by simp⟩
set_option maxRecDepth 100000 in
set_option maxHeartbeats 4000000 in
theorem small_any (w : World) : Calls Tryz.prog 35 #[] w fun e w' => e = .returned (smC (w.heap.size + 1)).val ∧ w' = smW w := by
  go_enter Tryz.func35, Tryz.ntmps35
  go_wp2_with fail
  have hi := smW_cf w
  have m0 := hi.cell 0
  have m1 := hi.cell 1
  have m2 := hi.cell 2
  have m3 := hi.cell 3
  have m4 := hi.cell 4
  have m5 := hi.cell 5
  have m6 := hi.cell 6
  have m7 := hi.cell 7
  have m8 := hi.cell 8
  simp [smC, Cm.arr] at m0 m1 m2 m3 m4 m5 m6 m7 m8
  refine bodyPost_ret (v := (smC (w.heap.size + 1)).val) ?_ rfl ⟨rfl, ?_⟩
  rotate_left
  · rfl
  · show (results Tryz.f35 _).run Tryz.prog (smW w) = .ok _ (smW w)
    generalize smW w = Wf at m0 m1 m2 m3 m4 m5 m6 m7 m8 ⊢
    simp [results, Tryz.results35, go_sem, m0, m1, m2, m3, m4, m5, m6, m7, m8, Cm.val, Cm.arr, smC]

set_option maxRecDepth 100000 in
set_option maxHeartbeats 4000000 in
theorem same_any (Ca Cb : Cm) (w : World) (ha : Ca.Ok w) (hb : Cb.Ok w) (hP : Pow w) (h64a : Cf64 Ca.cf) (h64b : Cf64 Cb.cf) (hla : (textM Ca.cf).length ≤ 1099511627776) (hlb : (textM Cb.cf).length ≤ 1099511627776) :
    Calls Tryz.prog 29 #[Ca.val, Cb.val] w fun e w' => e = .returned (.bool (textM Ca.cf == textM Cb.cf)) ∧ Fr (fun _ => False) w w' := by
  have KA := fun W (f : Fr (fun _ => False) w W) => rtext_any Ca W (ha.fr f) (hP.fr f) h64a hla
  have KB := fun W (f : Fr (fun _ => False) w W) => rtext_any Cb W (hb.fr f) (hP.fr f) h64b hlb
  have iA : Is ((w.alloc (.cells Ca.arr 30)).alloc (.cells Cb.arr 30)) w.heap.size 30 Ca.arr := (Is.new w _ _).alloc _
  have iB : Is ((w.alloc (.cells Ca.arr 30)).alloc (.cells Cb.arr 30)) (w.heap.size + 1) 30 Cb.arr := is_new_at (by simp) _ _
  have f0 := ((Fr.refl (fun _ => False) w).alloc (.cells Ca.arr 30)).alloc (.cells Cb.arr 30)
  generalize textM Ca.cf = ta at *
  generalize textM Cb.cf = tb at *
  have a0 := cell_fro ((iA.cell 0).trans (rfl : Ca.arr[0]? = some _))
  have b0 := cell_fro ((iB.cell 0).trans (rfl : Cb.arr[0]? = some _))
  have a1 := cell_fro ((iA.cell 1).trans (rfl : Ca.arr[1]? = some _))
  have b1 := cell_fro ((iB.cell 1).trans (rfl : Cb.arr[1]? = some _))
  have a2 := cell_fro ((iA.cell 2).trans (rfl : Ca.arr[2]? = some _))
  have b2 := cell_fro ((iB.cell 2).trans (rfl : Cb.arr[2]? = some _))
  have a3 := cell_fro ((iA.cell 3).trans (rfl : Ca.arr[3]? = some _))
  have b3 := cell_fro ((iB.cell 3).trans (rfl : Cb.arr[3]? = some _))
  have a4 := cell_fro ((iA.cell 4).trans (rfl : Ca.arr[4]? = some _))
  have b4 := cell_fro ((iB.cell 4).trans (rfl : Cb.arr[4]? = some _))
  have a5 := cell_fro ((iA.cell 5).trans (rfl : Ca.arr[5]? = some _))
  have b5 := cell_fro ((iB.cell 5).trans (rfl : Cb.arr[5]? = some _))
  have a6 := cell_fro ((iA.cell 6).trans (rfl : Ca.arr[6]? = some _))
  have b6 := cell_fro ((iB.cell 6).trans (rfl : Cb.arr[6]? = some _))
  have a7 := cell_fro ((iA.cell 7).trans (rfl : Ca.arr[7]? = some _))
  have b7 := cell_fro ((iB.cell 7).trans (rfl : Cb.arr[7]? = some _))
  have a8 := cell_fro ((iA.cell 8).trans (rfl : Ca.arr[8]? = some _))
  have b8 := cell_fro ((iB.cell 8).trans (rfl : Cb.arr[8]? = some _))
  clear iA iB
  unfold Cm.val Cm.arr at KA KB a0 a1 a2 a3 a4 a5 a6 a7 a8 b0 b1 b2 b3 b4 b5 b6 b7 b8 f0
  unfold Cm.val Cm.arr
  go_enter Tryz.func29, Tryz.ntmps29
  go_upto_region 1 with (fail)
  generalize ((w.alloc _).alloc _) = W0 at *
  refine region_fro (by kernel_rfl) (by kernel_rfl) ?_
  repeat (go_big_quiet_step (first | (go_at_call 11; with_reducible exact call_fro (KA _ (fr_nil f0 (Fro.f _)))) | (go_at_call 11; with_reducible exact call_fro (KB _ (fr_nil f0 (Fro.f _))))))
  refine wpQuiet_nil ?_
  rintro _ ⟨⟨w4, f4⟩, rfl⟩
  go_wp2_with fail
  go_ret
  exact ⟨rfl, fr_nil f0 f4⟩
end Go.Proofs.YtkkohdmneognlaaGreatDoor
/- The laws' first line: the chapter's examples. -/
namespace Go.Proofs.YtkkohdmneognlaaGreatDoor
open Go.RowKit

theorem sm_locks (b : Nat) : locksR (smC b) 0 = [1, 2] := by
  have e : locksR (smC b) 0 = locksM ⟨0, 1, [⟨1, 0, 1⟩, ⟨2, 0, 1⟩], [], [], false⟩ := rfl
  have e2 : rawLocks ⟨0, 1, [⟨1, 0, 1⟩, ⟨2, 0, 1⟩], [], [], false⟩ = [1, 2] := rfl
  have e3 : sortM [1, 2] = [1, 2] := List.mergeSort_of_pairwise (by decide)
  rw [e]
  unfold locksM
  rw [e2, e3]
  decide +kernel
theorem sm_ap (b : Nat) : apR (smC b) 0 = 0 := by kernel_rfl
theorem sm_clash (b : Nat) : clashM (smC b) 0 0 = true := by
  unfold clashM
  rw [sm_locks]
  decide
theorem sm_short (b : Nat) : ∀ r ∈ (smC b).rs, (r.over.length + (r.path.length + r.flank.length)) * 8 ≤ 140737488355328 := by
  intro r hr
  simp only [smC, List.mem_cons, List.not_mem_nil, or_false] at hr
  rcases hr with rfl | rfl <;> simp
theorem sm_64 : Cf64 smF := by
  refine ⟨?_, ?_, ?_, ?_, ?_, ?_⟩ <;> unfold In64 smF <;> decide
theorem sm_len : (textM smF).length ≤ 1024 := by decide +kernel

set_option maxRecDepth 100000 in
set_option maxHeartbeats 8000000 in
theorem lives_any (w : World) (hR : Rds w) (hP : Pow w) : Calls Tryz.prog 10 #[] w fun e w' => e = .returned (.bool true) ∧ Fr (fun _ => False) w w' := by
  have hok := smW_ok w
  have fw := smW_fr w
  have hsh := sm_short (w.heap.size + 1)
  have hlk := sm_locks (w.heap.size + 1)
  have hap := sm_ap (w.heap.size + 1)
  have hcl := sm_clash (w.heap.size + 1)
  have KS := small_any w
  have hcf : (smC (w.heap.size + 1)).cf = smF := rfl
  generalize smC (w.heap.size + 1) = C at *
  generalize smW w = w1 at *
  have K1 := fun W (f : Fr (fun _ => False) w1 W) => locks_any C 0 W (hok.fr f) hsh
  have K2 := fun W (f : Fr (fun _ => False) w1 W) => text_any C W (hok.fr f) ((hP.fr fw).fr f) (by rw [hcf]; exact sm_64) (by rw [hcf]; exact Nat.le_trans sm_len (by decide))
  have K3 := fun W (f : Fr (fun _ => False) w1 W) => read_any (textM smF) W (Nat.le_trans sm_len (by decide)) ((hR.fr fw).fr f) ((hP.fr fw).fr f)
  have K4 := fun W (f : Fr (fun _ => False) w1 W) => chk_any C W (hok.fr f)
  have K5 := fun D W (f : Fr (fun _ => False) w1 W) (hD : Cm.Ok W D) (hc : D.cf = smF) => same_any D C W hD (hok.fr f) ((hP.fr fw).fr f) (by rw [hc]; exact sm_64) (by rw [hcf]; exact sm_64) (by rw [hc]; exact Nat.le_trans sm_len (by decide)) (by rw [hcf]; exact Nat.le_trans sm_len (by decide))
  have K6 := fun W (f : Fr (fun _ => False) w1 W) => appr_any C 0 W (hok.fr f)
  have K7 := fun W (f : Fr (fun _ => False) w1 W) => clash_any C 0 0 W (hok.fr f) hsh
  rw [hlk] at K1
  rw [hcf] at K2 K4
  rw [sm_check] at K4
  rw [hap] at K6
  rw [hcl] at K7
  rw [sm_read.1, sm_read.2] at K3
  unfold Cm.val Cm.arr at KS K1 K2 K4 K6 K7
  unfold Cm.val Cm.arr at K5
  go_enter Tryz.func10, Tryz.ntmps10
  go_wp2_with fail
  refine KS.mono ?_
  rintro _ wb ⟨rfl, e⟩
  subst e
  have f2 := (Fr.refl (fun _ => False) wb).alloc (.cells C.arr 30)
  have is2 : Is (wb.alloc (.cells C.arr 30)) wb.heap.size 30 C.arr := Is.new wb _ _
  have p0 := is2.cell 0
  have p1 := is2.cell 1
  have p2 := is2.cell 2
  have p3 := is2.cell 3
  have p4 := is2.cell 4
  have p5 := is2.cell 5
  have p6 := is2.cell 6
  have p7 := is2.cell 7
  have p8 := is2.cell 8
  unfold Cm.arr at f2 is2 p0 p1 p2 p3 p4 p5 p6 p7 p8
  simp only [List.getElem?_toArray, List.getElem?_cons_zero, List.getElem?_cons_succ] at p0 p1 p2 p3 p4 p5 p6 p7 p8
  go_wp2_with fail
  refine (K1 _ f2).mono ?_
  rintro _ w3 ⟨A, c, rfl, o3, f3⟩
  have F3 := fr_nil f2 f3
  have is3 := is2.fr f3 id
  have r3 := wide_rd o3
  clear K1 f2 is2 o3 f3
  clear p0 p1 p2 p3 p4 p5 p6 p7 p8
  have p0 := is3.cell 0
  have p1 := is3.cell 1
  have p2 := is3.cell 2
  have p3 := is3.cell 3
  have p4 := is3.cell 4
  have p5 := is3.cell 5
  have p6 := is3.cell 6
  have p7 := is3.cell 7
  have p8 := is3.cell 8
  simp only [List.getElem?_toArray, List.getElem?_cons_zero, List.getElem?_cons_succ] at p0 p1 p2 p3 p4 p5 p6 p7 p8
  go_wp2_with fail
  refine (K2 _ F3).mono ?_
  rintro _ w4 ⟨rfl, f4⟩
  have F4 := fr_nil F3 f4
  go_wp2_with fail
  refine (K3 _ F4).mono ?_
  rintro _ w5 ⟨f5, D, hD, rfl, hDc⟩
  have F5 := fr_nil F4 f5
  have is5 := ((is3.fr f4 id).fr f5 id).alloc (.cells D.arr 30)
  have r5 := (r3.fr f4 fun _ _ => id).fr f5 fun _ _ => id
  have F6 := F5.alloc (.cells D.arr 30)
  have r6 := r5.fr ((Fr.refl (fun _ => False) w5).alloc (.cells D.arr 30)) fun _ _ => id
  have hD6 := hD.fr ((Fr.refl (fun _ => False) w5).alloc (.cells D.arr 30))
  have id6 : Is (w5.alloc (.cells D.arr 30)) w5.heap.size 30 D.arr := Is.new w5 _ _
  clear K2 K3 F3 is3 r3 f4 F4 f5 F5 r5 hD
  clear p0 p1 p2 p3 p4 p5 p6 p7 p8
  have K5' := fun W f hW => K5 D W f hW hDc
  simp only [hDc, hcf, beq_self_eq_true] at K5'
  clear K5
  try unfold Cm.val at K5'
  try unfold Cm.arr at K5'
  unfold Cm.arr at is5 F6 r6 hD6 id6
  unfold Cm.val Cm.arr
  have p0 := is5.cell 0
  have p1 := is5.cell 1
  have p2 := is5.cell 2
  have p3 := is5.cell 3
  have p4 := is5.cell 4
  have p5 := is5.cell 5
  have p6 := is5.cell 6
  have p7 := is5.cell 7
  have p8 := is5.cell 8
  simp only [List.getElem?_toArray, List.getElem?_cons_zero, List.getElem?_cons_succ] at p0 p1 p2 p3 p4 p5 p6 p7 p8
  have d0 := id6.cell 0
  have d1 := id6.cell 1
  have d2 := id6.cell 2
  have d3 := id6.cell 3
  have d4 := id6.cell 4
  have d5 := id6.cell 5
  have d6 := id6.cell 6
  have d7 := id6.cell 7
  have d8 := id6.cell 8
  simp only [List.getElem?_toArray, List.getElem?_cons_zero, List.getElem?_cons_succ] at d0 d1 d2 d3 d4 d5 d6 d7 d8
  go_wp2_with fail
  refine (K4 _ F6).mono ?_
  rintro _ w7 ⟨rfl, f7⟩
  have F7 := fr_nil F6 f7
  have is7 := is5.fr f7 id
  have id7 := id6.fr f7 id
  have hD7 := hD6.fr f7
  have r7 := r6.fr f7 fun _ _ => id
  clear K4 F6 is5 id6 hD6 r6 f7
  clear p0 p1 p2 p3 p4 p5 p6 p7 p8
  clear d0 d1 d2 d3 d4 d5 d6 d7 d8
  have p0 := is7.cell 0
  have p1 := is7.cell 1
  have p2 := is7.cell 2
  have p3 := is7.cell 3
  have p4 := is7.cell 4
  have p5 := is7.cell 5
  have p6 := is7.cell 6
  have p7 := is7.cell 7
  have p8 := is7.cell 8
  simp only [List.getElem?_toArray, List.getElem?_cons_zero, List.getElem?_cons_succ] at p0 p1 p2 p3 p4 p5 p6 p7 p8
  have d0 := id7.cell 0
  have d1 := id7.cell 1
  have d2 := id7.cell 2
  have d3 := id7.cell 3
  have d4 := id7.cell 4
  have d5 := id7.cell 5
  have d6 := id7.cell 6
  have d7 := id7.cell 7
  have d8 := id7.cell 8
  simp only [List.getElem?_toArray, List.getElem?_cons_zero, List.getElem?_cons_succ] at d0 d1 d2 d3 d4 d5 d6 d7 d8
  go_wp2_with fail
  refine (sameints_any (l := [1, 2]) (r7.fr ((Fr.refl (fun _ => False) _).alloc _) fun _ _ => id) (lit_rd w7 ([1, 2].map (Value.int .i64)) _) (by decide)).mono ?_
  rintro _ w8 ⟨rfl, f8⟩
  have g8 := fr_nil ((Fr.refl (fun _ => False) w7).alloc _) f8
  have F8 := fr_nil F7 g8
  have is8 := is7.fr g8 id
  have id8 := id7.fr g8 id
  have hD8 := hD7.fr g8
  clear F7 is7 id7 hD7 r7 f8 g8
  clear p0 p1 p2 p3 p4 p5 p6 p7 p8
  clear d0 d1 d2 d3 d4 d5 d6 d7 d8
  have p0 := is8.cell 0
  have p1 := is8.cell 1
  have p2 := is8.cell 2
  have p3 := is8.cell 3
  have p4 := is8.cell 4
  have p5 := is8.cell 5
  have p6 := is8.cell 6
  have p7 := is8.cell 7
  have p8 := is8.cell 8
  simp only [List.getElem?_toArray, List.getElem?_cons_zero, List.getElem?_cons_succ] at p0 p1 p2 p3 p4 p5 p6 p7 p8
  have d0 := id8.cell 0
  have d1 := id8.cell 1
  have d2 := id8.cell 2
  have d3 := id8.cell 3
  have d4 := id8.cell 4
  have d5 := id8.cell 5
  have d6 := id8.cell 6
  have d7 := id8.cell 7
  have d8 := id8.cell 8
  simp only [List.getElem?_toArray, List.getElem?_cons_zero, List.getElem?_cons_succ] at d0 d1 d2 d3 d4 d5 d6 d7 d8
  go_wp2_with fail
  refine (K5' _ F8 hD8).mono ?_
  rintro _ w9 ⟨rfl, f9⟩
  have F9 := fr_nil F8 f9
  have is9 := is8.fr f9 id
  clear K5' F8 is8 id8 hD8 f9
  clear p0 p1 p2 p3 p4 p5 p6 p7 p8
  clear d0 d1 d2 d3 d4 d5 d6 d7 d8
  have p0 := is9.cell 0
  have p1 := is9.cell 1
  have p2 := is9.cell 2
  have p3 := is9.cell 3
  have p4 := is9.cell 4
  have p5 := is9.cell 5
  have p6 := is9.cell 6
  have p7 := is9.cell 7
  have p8 := is9.cell 8
  simp only [List.getElem?_toArray, List.getElem?_cons_zero, List.getElem?_cons_succ] at p0 p1 p2 p3 p4 p5 p6 p7 p8
  go_wp2_with fail
  refine (K6 _ F9).mono ?_
  rintro _ w10 ⟨rfl, f10⟩
  have F10 := fr_nil F9 f10
  have is10 := is9.fr f10 id
  clear K6 F9 is9 f10
  clear p0 p1 p2 p3 p4 p5 p6 p7 p8
  have p0 := is10.cell 0
  have p1 := is10.cell 1
  have p2 := is10.cell 2
  have p3 := is10.cell 3
  have p4 := is10.cell 4
  have p5 := is10.cell 5
  have p6 := is10.cell 6
  have p7 := is10.cell 7
  have p8 := is10.cell 8
  simp only [List.getElem?_toArray, List.getElem?_cons_zero, List.getElem?_cons_succ] at p0 p1 p2 p3 p4 p5 p6 p7 p8
  go_wp2_with fail
  refine (K7 _ F10).mono ?_
  rintro _ w11 ⟨rfl, f11⟩
  go_wp2_with fail
  go_ret
  exact ⟨rfl, fr_nil fw (fr_nil F10 f11)⟩
end Go.Proofs.YtkkohdmneognlaaGreatDoor
/- What the rows list: the library's tables and the two errors' variables; and the world's shape. -/
namespace Go.Proofs.YtkkohdmneognlaaGreatDoor
open Go.RowKit Go.Lib

def laidL : List (String × DataW Unit) := Rows.confShuntsRow.laid
theorem laid_reads {W : World} (h : laidMetH Tryz.prog laidL W) {n : String} {d : DataW Unit} (hm : (n, d) ∈ laidL) : VarReads Tryz.prog W n d := laidMet.reads h hm
theorem tab_reads {W : World} {name : String} {k : IntKind} {zs : List Int} {g : Nat} {t e : TypeId} {n : Nat}
    (hg : Tryz.prog.globalNamed name = some g) (hty : (Tryz.prog.globals[g]?).map (·.type) = some t) (ht : Tryz.prog.underlying t = some (.array n e)) (he : Tryz.prog.underlying e = some (.int k)) (hce : Tryz.prog.cellsOf e = 1) (hct : Tryz.prog.cellsOf t = n)
    (h : VarReads Tryz.prog W name (tabData k zs)) : TabIs Tryz.prog W name k zs := by
  obtain ⟨g', t', cs, fuel, p, hg', ht', hvar, hd⟩ := h
  obtain rfl := Option.some.inj (hg.symm.trans hg')
  obtain rfl := Option.some.inj (hty.symm.trans ht')
  unfold TabIs
  rw [hvar, ← cells_of_tab ht he hce hct hd]
theorem laid_pow {W : World} (h : laidMetH Tryz.prog laidL W) : Pow W := by
  have k := laid_reads h (n := "internal/strconv.uint64pow10") (d := Rows.laid_internal_strconv_uint64pow10) (by unfold laidL Rows.confShuntsRow; simp)
  have e : (Rows.laid_internal_strconv_uint64pow10 : DataW Unit) = tabData .u64 Lib.pow10Tab := by kernel_rfl
  rw [e] at k
  first
    | exact tab_reads (g := 5) (t := 219) (e := 171) (n := 20) (by kernel_rfl) (by kernel_rfl) Tryz.underlying219 Tryz.underlying171 (by kernel_rfl) (by kernel_rfl) k
theorem laid_white {W : World} (h : laidMetH Tryz.prog laidL W) : Lib.WhiteTab 2 W := by
  have k := laid_reads h (n := "unicode.White_Space") (d := Rows.laid_unicode_White_Space) (by unfold laidL Rows.confShuntsRow; simp)
  have e : (Rows.laid_unicode_White_Space : DataW Unit) = whiteData := by kernel_rfl
  rw [e] at k
  exact whiteTab_of_reads Tryz.lays199 ⟨by kernel_rfl, by kernel_rfl, by kernel_rfl, by kernel_rfl, by kernel_rfl, by kernel_rfl, by kernel_rfl, by kernel_rfl⟩ k
theorem laid_utf {W : World} (h : laidMetH Tryz.prog laidL W) : Lib.Utf8Tabs 6 7 W := by
  have k1 := laid_reads h (n := "unicode/utf8.first") (d := Rows.laid_unicode_utf8_first) (by unfold laidL Rows.confShuntsRow; simp)
  have k2 := laid_reads h (n := "unicode/utf8.acceptRanges") (d := Rows.laid_unicode_utf8_acceptRanges) (by unfold laidL Rows.confShuntsRow; simp)
  have e1 : (Rows.laid_unicode_utf8_first : DataW Unit) = firstData := by kernel_rfl
  have e2 : (Rows.laid_unicode_utf8_acceptRanges : DataW Unit) = acceptData := by kernel_rfl
  rw [e1] at k1
  rw [e2] at k2
  exact utf8Tabs_of_reads (ρ := Tryz.lays197_ren) { Tryz.lays197 with } ⟨by kernel_rfl, by kernel_rfl, by kernel_rfl, by kernel_rfl, by kernel_rfl, by kernel_rfl, by kernel_rfl⟩ k1 k2
def ascTab : List Int := (List.range 256).map fun c => if c = 9 ∨ c = 10 ∨ c = 11 ∨ c = 12 ∨ c = 13 ∨ c = 32 then 1 else 0
theorem laid_asc {W : World} (h : laidMetH Tryz.prog laidL W) : ∀ c : Nat, c < 256 → W.cell? ⟨0, c, none⟩ = some (.int .u8 (if c = 9 ∨ c = 10 ∨ c = 11 ∨ c = 12 ∨ c = 13 ∨ c = 32 then 1 else 0)) := by
  have k := laid_reads h (n := "strings.asciiSpace") (d := Rows.laid_strings_asciiSpace) (by unfold laidL Rows.confShuntsRow; simp)
  have e : (Rows.laid_strings_asciiSpace : DataW Unit) = tabData .u8 ascTab := by kernel_rfl
  rw [e] at k
  have hg : Tryz.prog.globalNamed "strings.asciiSpace" = some 0 := by kernel_rfl
  have t := tab_reads (t := 192) (e := 5) (n := 256) hg (by kernel_rfl) Tryz.underlying192 Tryz.underlying5 (by kernel_rfl) (by kernel_rfl) k
  intro c hc
  have := t.cell hg c (by unfold ascTab; simpa using hc)
  rw [this]
  unfold ascTab
  simp [hc]
theorem Tryz.starES : ("*" ++ "errors.errorString" : String) = "*errors.errorString" := by decide
theorem Tryz.rowES (u : TypeId) (h : Tryz.prog.typeName? 3 u = some "*errors.errorString") : u = 238 :=
  typeName_ptr_named (nm := "errors.errorString") (by rw [Tryz.starES]; kernel_rfl) (by kernel_rfl) (by decide) u (by rw [Tryz.starES]; exact h)
theorem laid_errs {W : World} (h : laidMetH Tryz.prog laidL W) : Errs W := by
  have h0 : laidMet Tryz.prog Rows.confShuntsRow.laid W := h
  unfold Rows.confShuntsRow at h0
  have h4 := h0.tail.tail.tail.tail
  have h5 := h4.tail
  have g4 : Tryz.prog.globalNamed "strconv.ErrRange" = some 4 := by kernel_rfl
  have g3 : Tryz.prog.globalNamed "strconv.ErrSyntax" = some 3 := by kernel_rfl
  obtain ⟨a0, s0, hv0, _⟩ := laid_sentinel (ti := 144) (tp := 238) (te := 240) (ts := 9) h4 g4 (by kernel_rfl) Tryz.underlying144 Tryz.rowES Tryz.underlying238 Tryz.underlying240 rfl rfl Tryz.underlying9 (by kernel_rfl) (by kernel_rfl)
  obtain ⟨a1, s1, hv1, _⟩ := laid_sentinel (ti := 144) (tp := 238) (te := 240) (ts := 9) h5 g3 (by kernel_rfl) Tryz.underlying144 Tryz.rowES Tryz.underlying238 Tryz.underlying240 rfl rfl Tryz.underlying9 (by kernel_rfl) (by kernel_rfl)
  exact ⟨⟨_, _, (World.var?_cell g3 hv1 0).trans rfl⟩, ⟨_, _, (World.var?_cell g4 hv0 0).trans rfl⟩⟩
/-- all that the contracts ask of the world at the call's beginning -/
theorem laid_rds {W : World} (h : laidMetH Tryz.prog laidL W) (hs : W.ShapedOpen Tryz.prog) : Rds W :=
  ⟨⟨laid_utf h, laid_white h, laid_asc h⟩, laid_errs h, Tryz.laysM145.s1_3 W hs⟩
end Go.Proofs.YtkkohdmneognlaaGreatDoor
/- How a law's statement follows from its walk: a call that answers true, and that leaves all that was there as it was, meets the law's specification, whatever its arguments are. -/
namespace Go.Proofs.YtkkohdmneognlaaGreatDoor
open Go.ChangeShapes Go.WideShapes Go.ChangeAt Go.RowKit

theorem Tryz.laidOut : laidOutB Tryz.prog = true := by kernel_rfl
theorem Tryz.own : ownKnob Tryz.prog.godebug = none := by kernel_rfl

theorem args_stay {H : Type} {enc : TypeId × Value → H} {P : Program} (hl : laidOutB P = true) {W W' : World} (hb : Below W.heap.size W W') :
    ∀ {ts : List TypeId} {vs : List Value} {ds : List (DataW H)} {ps : List MemPlace}, (∀ t ∈ ts, P.readableRec t = true ∧ t < P.types.size) →
      DataW.TrodAll enc P W 0 (fun _ => true) true ts vs ds ps → (∀ x ∈ ps, x.block < W.heap.size) → DataW.TrodAll enc P W' 0 (fun b => decide (b < W.heap.size)) true ts vs ds ps
  | [], _, _, _, _, h, _ => by
    obtain ⟨rfl, rfl, rfl⟩ := trodAll_nil h
    exact trodAll_mk0
  | t :: ts, _, _, _, hr, h, hlt => by
    obtain ⟨v, vs, d, ds, p, ps, rfl, rfl, rfl, h0, r0⟩ := trodAll_cons h
    exact trodAll_cons_mk (Below.trod hl (hr t (by simp)).1 (hr t (by simp)).2 h0 hb (fun x hx => hlt x (by simp [hx])))
      (args_stay hl hb (fun u hu => hr u (by simp [hu])) r0 (fun x hx => hlt x (by simp [hx])))

/-- The law's specification is met. -/
theorem law_post {H : Type} {enc : TypeId × Value → H} {f : Func} {s : ChangeSpec} {W W' : World} {args : Array Value} {ds gs : List (DataW H)} {before : List MemPlace}
    (hW : DataW.Whole enc Tryz.prog f.params.toList s.vars false W args.toList ds gs before) (hv : s.vars = []) (hres : f.resultTypes = #[4])
    (hts : ∀ t ∈ f.params.toList, Tryz.prog.readableRec t = true ∧ t < Tryz.prog.types.size)
    (hfn : (s.fn H ds).results = [.lit (.bool true)]) (hargs : (s.fn H ds).args = ds) (hvars : (s.fn H ds).vars = []) (hb : Below W.heap.size W W') :
    ∃ v, Ending.returned (.bool true) = .returned v ∧ s.post enc Tryz.prog f false true false false W args v W' := by
  have hlt : ∀ p ∈ before, p.block < W.heap.size := fun p hp => hW.lt p hp
  have hW' := hW
  obtain ⟨p, q, hA, hV, rfl, hfz, hnd⟩ := hW
  rw [hv] at hV
  obtain ⟨rfl, rfl⟩ := trodVars_none hV
  refine ⟨_, rfl, ds, [], _, [], p, [], hW', ?_, ?_, ?_, hb.frame _, fun h => by cases h⟩
  · rw [List.append_nil, hfn, hres]
    exact trodAll_cons_mk (shut_bool Tryz.underlying4 _) trodAll_mk0
  · rw [List.append_nil, hargs]
    exact args_stay Tryz.laidOut hb hts hA (fun x hx => hlt x (by simp [hx]))
  · rw [List.append_nil, hv, hvars]
    rfl
end Go.Proofs.YtkkohdmneognlaaGreatDoor
/- How arguments that are slices of numbers are read: their cells, and what they say as data. -/
namespace Go.Proofs.YtkkohdmneognlaaGreatDoor
open Go.ChangeShapes Go.WideShapes Go.ChangeAt Go.RowKit

theorem bytes_int : Tryz.prog.bytesOf 3 = 8 := by kernel_rfl
theorem Tryz.cellInt : Tryz.prog.cellsOf 3 = 1 := by kernel_rfl

theorem rd_of {w : World} {a : Addr} {xs : List Value} (h : ∀ i u, xs[i]? = some u → w.cell? (a.add i) = some u) : Rd w (some a) xs := fun h0 => by
  have h00 := h 0 xs[0] (List.getElem?_eq_getElem h0)
  have e0 : a.add 0 = a := by simp [Addr.add]
  rw [e0] at h00
  have hs := World.cell?_spot h00
  obtain ⟨g, o, spot⟩ := a
  simp only at hs
  subst hs
  exact ⟨g, o, rfl, World.block_lt_of_cell? w ⟨g, o, none⟩ h00, fun j u hu => by rw [← add_plain]; exact h j u hu⟩

theorem lits_len {H : Type} (l : List Int) : (lits .i64 l : List (DataW H)).length = l.length := by simp [lits]

section
variable {H : Type} {enc : TypeId × Value → H} {w : World} {base : Nat}
set_option maxRecDepth 100000 in
theorem open_list {v : Value} {d : DataW H} {ps : List MemPlace} (hv : Value.okWide Tryz.prog w .any base 25 v) (h : DataW.Trod enc Tryz.prog w 0 (fun _ => true) true 25 v d ps) :
    ∃ (A : Option Addr) (c : Nat) (l : List Int), v = .slice A l.length c ∧ Rd w A (l.map (Value.int .i64)) ∧ ((d = .nil ∧ l = []) ∨ ∃ rest, d = .slice (lits .i64 l) rest) := by
  obtain ⟨a0, len0, cap0, rfl⟩ := okWide_slice Tryz.underlying25 hv
  obtain ⟨fuel, hf⟩ := h
  rcases open_ints Tryz.underlying25 Tryz.underlying3 Tryz.cellInt hf with ⟨hcs, hx⟩ | ⟨a, len, cap, zs, hcs, _, hl, hm, hz, hx, hcell, _⟩
  · simp only [Value.cells, List.cons.injEq, Value.slice.injEq, and_true] at hcs
    obtain ⟨rfl, rfl, rfl⟩ := hcs
    simp only [Prod.mk.injEq] at hx
    exact ⟨none, 0, [], rfl, fun h => by simp at h, .inl ⟨hx.1, rfl⟩⟩
  · simp only [Value.cells, List.cons.injEq, Value.slice.injEq, and_true] at hcs
    obtain ⟨rfl, rfl, rfl⟩ := hcs
    have hzc : zs.length = cap0 := by simpa using hz
    simp only [Prod.mk.injEq] at hx
    have hlen : (zs.take len0).length = len0 := by rw [List.length_take]; omega
    refine ⟨some a, cap0, zs.take len0, by rw [hlen], rd_of fun i u hu => ?_, .inr ⟨_, hx.1⟩⟩
    have hi : i < len0 := by
      have := (List.getElem?_eq_some_iff.1 hu).1
      rw [List.length_map, hlen] at this
      exact this
    rw [hcell i (by omega)]
    rw [List.getElem?_map, List.getElem?_take, if_pos hi, List.getElem?_eq_getElem (by omega)] at hu
    simp only [Option.map_some, Option.some.injEq] at hu
    rw [← hu, List.getD_eq_getElem?_getD, List.getElem?_eq_getElem (by omega)]
    rfl
set_option maxRecDepth 100000 in
theorem open_list_cap {v : Value} {d : DataW H} {ps : List MemPlace} (hv : Value.okWide Tryz.prog w .any base 25 v) (h : DataW.Trod enc Tryz.prog w 0 (fun _ => true) true 25 v d ps) :
    ∃ (A : Option Addr) (c : Nat) (l : List Int), v = .slice A l.length c ∧ Rd w A (l.map (Value.int .i64)) ∧ ((d = .nil ∧ l = []) ∨ ∃ rest, d = .slice (lits .i64 l) rest) ∧ l.length ≤ c ∧ c ≤ maxLen := by
  obtain ⟨a0, len0, cap0, rfl⟩ := okWide_slice Tryz.underlying25 hv
  obtain ⟨fuel, hf⟩ := h
  rcases open_ints Tryz.underlying25 Tryz.underlying3 Tryz.cellInt hf with ⟨hcs, hx⟩ | ⟨a, len, cap, zs, hcs, _, hl, hm, hz, hx, hcell, _⟩
  · simp only [Value.cells, List.cons.injEq, Value.slice.injEq, and_true] at hcs
    obtain ⟨rfl, rfl, rfl⟩ := hcs
    simp only [Prod.mk.injEq] at hx
    exact ⟨none, 0, [], rfl, fun h => by simp at h, .inl ⟨hx.1, rfl⟩, Nat.le_refl _, Nat.zero_le _⟩
  · simp only [Value.cells, List.cons.injEq, Value.slice.injEq, and_true] at hcs
    obtain ⟨rfl, rfl, rfl⟩ := hcs
    have hzc : zs.length = cap0 := by simpa using hz
    simp only [Prod.mk.injEq] at hx
    have hlen : (zs.take len0).length = len0 := by rw [List.length_take]; omega
    refine ⟨some a, cap0, zs.take len0, by rw [hlen], rd_of fun i u hu => ?_, .inr ⟨_, hx.1⟩, by rw [hlen]; exact hl, hm⟩
    have hi : i < len0 := by
      have := (List.getElem?_eq_some_iff.1 hu).1
      rw [List.length_map, hlen] at this
      exact this
    rw [hcell i (by omega)]
    rw [List.getElem?_map, List.getElem?_take, if_pos hi, List.getElem?_eq_getElem (by omega)] at hu
    simp only [Option.map_some, Option.some.injEq] at hu
    rw [← hu, List.getD_eq_getElem?_getD, List.getElem?_eq_getElem (by omega)]
    rfl
end
end Go.Proofs.YtkkohdmneognlaaGreatDoor

/- The contract of the laws' first line: example 1. -/
import Derived.Test.YtmohefkingnknaaTstat
import Derived.Test.YtmohefkingnknaaTblock
namespace Go.Proofs.Ytmohefkingnknaa.Te
open Go.RowKit

theorem lit_ok {W0 W : World} {b : Nat} {l : List Int} {c : Nat} (hb : b = W0.heap.size) (hl : l.length ≤ 17592186044416) (F : Fr (fun _ => False) (W0.alloc (.cells (l.map (Value.int .i64)).toArray 3)) W) : (L3.mk (some ⟨b, 0, none⟩) l c).Ok W := by
  subst hb
  refine ⟨(new_rd W0 _ _).fr F fun _ _ => id, hl, fun _ k hk => ?_⟩
  have e : W0.heap.size = k := by injection hk
  have := F.size
  simp at this
  omega

def liSh (b : Nat) : Sh := ⟨⟨some ⟨b, 0, none⟩, 2, 2⟩, ⟨some ⟨b + 1, 0, none⟩, 1, 1⟩, ⟨some ⟨b + 2, 0, none⟩, 1, 1⟩, ⟨some ⟨b + 3, 0, none⟩, 1, 1⟩⟩
theorem liSh_ok (b : Nat) : (liSh b).Ok := ⟨by show 2 ≤ _; decide, by show 1 ≤ _; decide, by show 1 ≤ _; decide, by show 1 ≤ _; decide⟩
def liSt (b : Nat) : Sta := ⟨⟨some ⟨b, 0, none⟩, [1, 0], 2⟩, ⟨some ⟨b + 1, 0, none⟩, [2], 1⟩, ⟨some ⟨b + 2, 0, none⟩, [1], 1⟩, ⟨some ⟨b + 3, 0, none⟩, [1], 1⟩⟩
def liOr (b : Nat) : Ods := ⟨⟨some ⟨b, 0, none⟩, [0], 1⟩, ⟨some ⟨b + 1, 0, none⟩, [2], 1⟩, ⟨some ⟨b + 2, 0, none⟩, [0], 1⟩⟩
theorem li1 : stL ⟨2, 1, 1, 1⟩ ⟨[1, 0], [2], [1], [1]⟩ = ([1, 1, 0, 2, 1, 1], 0) := by decide
theorem li2 : orL ⟨2, 1, 1, 1⟩ ⟨[0], [2], [0]⟩ = ([2, 0, 2, 0], 0) := by decide
theorem li3 : blL 1 0 7 = ([3, 0, 0, 0, 1, 0, 0, 0, 0, 0, 0, 0, 7], 0) := by decide

set_option maxRecDepth 100000 in
set_option maxHeartbeats 1000000 in
theorem lives_any (w : World) : Calls Try.prog 8 #[] w fun e w' => e = .returned (.bool true) ∧ Fr (fun _ => False) w w' := by
  have KB := fun W => block_any 1 0 7 W
  rw [li3] at KB
  have F5 : Fr (fun _ => False) w (((((w.alloc (.cells #[.int .i64 1, .int .i64 2] 3)).alloc (.cells #[.int .i64 1] 3)).alloc (.cells #[.int .i64 0] 3)).alloc (.cells #[.int .i64 1] 3)).alloc (.cells #[.slice (some ⟨w.heap.size, 0, none⟩) 2 2, .slice (some ⟨w.heap.size + 1, 0, none⟩) 1 1, .slice (some ⟨w.heap.size + 1 + 1, 0, none⟩) 1 1, .slice (some ⟨w.heap.size + 1 + 1 + 1, 0, none⟩) 1 1] 24)) := (((((Fr.refl _ w).alloc _).alloc _).alloc _).alloc _).alloc _
  have z5 : (((((w.alloc (.cells #[.int .i64 1, .int .i64 2] 3)).alloc (.cells #[.int .i64 1] 3)).alloc (.cells #[.int .i64 0] 3)).alloc (.cells #[.int .i64 1] 3)).alloc (.cells #[.slice (some ⟨w.heap.size, 0, none⟩) 2 2, .slice (some ⟨w.heap.size + 1, 0, none⟩) 1 1, .slice (some ⟨w.heap.size + 1 + 1, 0, none⟩) 1 1, .slice (some ⟨w.heap.size + 1 + 1 + 1, 0, none⟩) 1 1] 24)).heap.size = w.heap.size + 5 := by simp
  have i5 : Is (((((w.alloc (.cells #[.int .i64 1, .int .i64 2] 3)).alloc (.cells #[.int .i64 1] 3)).alloc (.cells #[.int .i64 0] 3)).alloc (.cells #[.int .i64 1] 3)).alloc (.cells #[.slice (some ⟨w.heap.size, 0, none⟩) 2 2, .slice (some ⟨w.heap.size + 1, 0, none⟩) 1 1, .slice (some ⟨w.heap.size + 1 + 1, 0, none⟩) 1 1, .slice (some ⟨w.heap.size + 1 + 1 + 1, 0, none⟩) 1 1] 24)) (w.heap.size + 4) 24 #[.slice (some ⟨w.heap.size, 0, none⟩) 2 2, .slice (some ⟨w.heap.size + 1, 0, none⟩) 1 1, .slice (some ⟨w.heap.size + 1 + 1, 0, none⟩) 1 1, .slice (some ⟨w.heap.size + 1 + 1 + 1, 0, none⟩) 1 1] := by
    have := Is.new ((((w.alloc (.cells #[.int .i64 1, .int .i64 2] 3)).alloc (.cells #[.int .i64 1] 3)).alloc (.cells #[.int .i64 0] 3)).alloc (.cells #[.int .i64 1] 3)) 24 #[.slice (some ⟨w.heap.size, 0, none⟩) 2 2, .slice (some ⟨w.heap.size + 1, 0, none⟩) 1 1, .slice (some ⟨w.heap.size + 1 + 1, 0, none⟩) 1 1, .slice (some ⟨w.heap.size + 1 + 1 + 1, 0, none⟩) 1 1]
    simpa using this
  obtain ⟨w5, hw5⟩ : ∃ w5, w5 = ((((w.alloc (.cells #[.int .i64 1, .int .i64 2] 3)).alloc (.cells #[.int .i64 1] 3)).alloc (.cells #[.int .i64 0] 3)).alloc (.cells #[.int .i64 1] 3)).alloc (.cells #[.slice (some ⟨w.heap.size, 0, none⟩) 2 2, .slice (some ⟨w.heap.size + 1, 0, none⟩) 1 1, .slice (some ⟨w.heap.size + 1 + 1, 0, none⟩) 1 1, .slice (some ⟨w.heap.size + 1 + 1 + 1, 0, none⟩) 1 1] 24) := ⟨_, rfl⟩
  rw [← hw5] at F5 z5 i5
  have HW := Lib.hid hw5
  have HI := Lib.hid i5
  have HF := Lib.hid F5
  have HZ := Lib.hid z5
  clear hw5 F5 z5 i5
  go_enter Try.func8, Try.ntmps8
  go_wp2_with fail
  rw [← HW.out]
  have fA : ∀ (o0 o1 o2 o3 : Obj), Fr (fun _ => False) w5 ((((w5.alloc o0).alloc o1).alloc o2).alloc o3) := fun _ _ _ _ => ((((Fr.refl _ w5).alloc _).alloc _).alloc _).alloc _
  have ok : (liSt (w.heap.size + 5)).Ok ((((w5.alloc (.cells #[.int .i64 1, .int .i64 0] 3)).alloc (.cells #[.int .i64 2] 3)).alloc (.cells #[.int .i64 1] 3)).alloc (.cells #[.int .i64 1] 3)) := by
    have hz := HZ.out
    refine ⟨lit_ok (W0 := w5) (by omega) (by decide) ((((Fr.refl _ _).alloc _).alloc _).alloc _), lit_ok (W0 := w5.alloc (.cells #[.int .i64 1, .int .i64 0] 3)) (by simp; omega) (by decide) (((Fr.refl _ _).alloc _).alloc _), lit_ok (W0 := (w5.alloc (.cells #[.int .i64 1, .int .i64 0] 3)).alloc (.cells #[.int .i64 2] 3)) (by simp; omega) (by decide) ((Fr.refl _ _).alloc _), lit_ok (W0 := ((w5.alloc (.cells #[.int .i64 1, .int .i64 0] 3)).alloc (.cells #[.int .i64 2] 3)).alloc (.cells #[.int .i64 1] 3)) (by simp; omega) (by decide) (Fr.refl _ _)⟩
  have KS := status_any (liSh_ok w.heap.size) ok
  rw [show stL (liSh w.heap.size).hs (liSt (w.heap.size + 5)).st = ([1, 1, 0, 2, 1, 1], 0) from li1] at KS
  have fB := fr_nil HF.out (fA (.cells #[.int .i64 1, .int .i64 0] 3) (.cells #[.int .i64 2] 3) (.cells #[.int .i64 1] 3) (.cells #[.int .i64 1] 3))
  have iB := HI.out.fr (fA (.cells #[.int .i64 1, .int .i64 0] 3) (.cells #[.int .i64 2] 3) (.cells #[.int .i64 1] 3) (.cells #[.int .i64 1] 3)) id
  clear fA ok
  generalize (((w5.alloc (.cells #[.int .i64 1, .int .i64 0] 3)).alloc (.cells #[.int .i64 2] 3)).alloc (.cells #[.int .i64 1] 3)).alloc (.cells #[.int .i64 1] 3) = wB at *
  refine KS.mono ?_
  rintro e w6 ⟨rfl, f6⟩
  have i6 := iB.fr f6 id
  have F6 := Lib.hid (fr_nil fB f6)
  obtain ⟨c0, c1, c2, c3⟩ := four_cells i6
  have HI6 := Lib.hid i6
  clear KS fB iB f6 HI HF HZ HW i6
  go_wp2_with fail
  have ok2 : (liOr w6.heap.size).Ok (((w6.alloc (.cells #[.int .i64 0] 3)).alloc (.cells #[.int .i64 2] 3)).alloc (.cells #[.int .i64 0] 3)) :=
    ⟨lit_ok (W0 := w6) rfl (by decide) (((Fr.refl _ _).alloc _).alloc _), lit_ok (W0 := w6.alloc (.cells #[.int .i64 0] 3)) (by simp) (by decide) ((Fr.refl _ _).alloc _), lit_ok (W0 := (w6.alloc (.cells #[.int .i64 0] 3)).alloc (.cells #[.int .i64 2] 3)) (by simp) (by decide) (Fr.refl _ _)⟩
  have KO := orders_any (liSh_ok w.heap.size) ok2
  rw [show orL (liSh w.heap.size).hs (liOr w6.heap.size).st = ([2, 0, 2, 0], 0) from li2] at KO
  have fC := fr_nil F6.out ((((Fr.refl (fun _ => False) w6).alloc (.cells #[.int .i64 0] 3)).alloc (.cells #[.int .i64 2] 3)).alloc (.cells #[.int .i64 0] 3))
  clear ok2
  generalize ((w6.alloc (.cells #[.int .i64 0] 3)).alloc (.cells #[.int .i64 2] 3)).alloc (.cells #[.int .i64 0] 3) = wC at *
  refine KO.mono ?_
  rintro e w7 ⟨rfl, f7⟩
  have F7 := Lib.hid (fr_nil fC f7)
  clear KO fC f7 HI6 c0 c1 c2 c3 F6
  go_wp2_with fail
  refine (KB w7).mono ?_
  rintro e w8 ⟨rfl, f8⟩
  have F8 := Lib.hid (fr_nil F7.out f8)
  clear KB f8 F7
  go_wp2_with fail
  go_ret
  exact ⟨rfl, F8.out⟩
end Go.Proofs.Ytmohefkingnknaa.Te

import Derived.Test.YtnnacdkijeoeoaaV2
import Derived.Test.YtnnacdkijeoeoaaLplain
import Derived.Test.YtnnacdkijeoeoaaLcoldp
import Derived.Test.YtnnacdkijeoeoaaLsml
import Derived.Test.YtnnacdkijeoeoaaLnew
import Derived.Test.YtnnacdkijeoeoaaKv
import Derived.Test.YtnnacdkijeoeoaaNl
import Derived.Test.YtnnacdkijeoeoaaLopen
import Derived.BigQuiet
import Derived.Deep.QuietTactic
/- Plain: an end of a line (one section that is a line, beside another one): what calls and cycles do to it. -/
namespace Go.Proofs.Ytnnacdkijeoeoaa.Bk
open Lk Nk

def endF : Cf := ⟨[⟨0, 0, 1⟩, ⟨0, 0, 0⟩], [⟨0, 0, 1, 1⟩], [⟨1, 1⟩], [], [⟨0, -1, [⟨0, 0, 1⟩], [], [], false⟩], ⟨2, 1, 4, 1000⟩⟩
theorem end_check : checkE endF = 0 := by kernel_rfl
/-- an end's state -/
def endK (o o2 : Int) (r : Rs) (l : Ln) (d : Bool) : Kp := ⟨[o, o2], [r], [⟨0, 0⟩, ⟨0, 0⟩], [], [default, l, default, default], [0, 0], d⟩
def freshK : Kp := endK 0 0 default default false
theorem fresh_open : ({ openM endF with dirty := false } : Kp) = freshK := by kernel_rfl
/-- the line's section is seen -/
def seenV (occ stamp : Int) : Vp := ⟨[⟨occ, stamp, true⟩, ⟨occ, stamp, true⟩], [default, default], [], [⟨1, stamp, true⟩]⟩
theorem seen_sees (occ stamp : Int) : seesB endF (seenV occ stamp) = true := by
  unfold seesB seenV endF; rfl
structure EndOk (o o2 : Int) (r : Rs) (l : Ln) : Prop where
  o : -2 ≤ o ∧ o ≤ 1
  o2 : -2 ≤ o2 ∧ o2 ≤ 1
  r : rsB ⟨0, -1, [⟨0, 0, 1⟩], [], [], false⟩ r = true
  l : lnB l = true
theorem end_fit {o o2 : Int} {r : Rs} {l : Ln} {d : Bool} (h : EndOk o o2 r l) : fitsB endF (endK o o2 r l d) = true := by
  have h1 := h.o
  have h2 := h.o2
  unfold fitsB suitsB lensB
  rw [end_check]
  simp only [endK, endF, List.length_cons, List.length_nil, List.all_cons, List.all_nil, rtsB, h.r, h.l]
  have a1 : inB (-2) ((0 + 1 : Nat) : Int) o = true := inB_iff.2 (by omega)
  have a2 : inB (-2) ((0 + 1 : Nat) : Int) o2 = true := inB_iff.2 (by omega)
  rw [a1, a2]
  rfl
theorem end_has0 : hasB endF.secs (0 : Nat) = false := by kernel_rfl
theorem end_has1 : hasB endF.secs (1 : Nat) = true := by kernel_rfl
theorem end_has2 : hasB endF.secs (2 : Nat) = false := by kernel_rfl
theorem end_has3 : hasB endF.secs (3 : Nat) = false := by kernel_rfl
theorem end_sec : secAt endF.secs (1 : Nat) = 0 := by kernel_rfl
theorem end_ahead (r : Rs) : aheadB endF.sigs endF.rts [r] 0 = false := by
  unfold aheadB endF
  simp [aheadB, apM]
  intro _
  decide
/-- a cycle of an end -/
def oneE (now occ stamp : Int) (d : Bool) (l : Ln) (o : Int) : Ln × Int × Bool := one now (!d) false ⟨occ, stamp, true⟩ l o
def stepK (now occ stamp : Int) (o o2 : Int) (r : Rs) (l : Ln) (d : Bool) : Kp :=
  endK (oneE now occ stamp d l o).2.1 o2 r (oneE now occ stamp d l o).1 (d || (oneE now occ stamp d l o).2.2)
theorem end_lines (now occ stamp : Int) (o o2 : Int) (r : Rs) (l : Ln) (d : Bool) : linesK endF (seenV occ stamp) now (!d) (endK o o2 r l d) 4 = stepK now occ stamp o o2 r l d := by
  unfold linesK linesK linesK linesK linesK lineK
  rw [end_has0, end_has1, end_has2, end_has3]
  simp only [if_pos, Bool.false_eq_true, if_false]
  unfold putK oneAt
  rw [end_sec, show (endK o o2 r l d).rts = [r] from rfl, end_ahead]
  rfl
theorem end_step {now occ stamp : Int} {o o2 : Int} {r : Rs} {l : Ln} {d : Bool} (h : EndOk o o2 r l) (hn : tmB now = true) : bstepM endF (seenV occ stamp) now (endK o o2 r l d) = (stepK now occ stamp o o2 r l d, 0) := by
  unfold bstepM
  rw [end_fit h, seen_sees, hn, if_neg (by decide), if_neg (by decide)]
  rw [show (endK o o2 r l d).dirty = d from rfl, end_lines]
theorem end_hear {o o2 : Int} {r : Rs} {l : Ln} {d : Bool} (h : EndOk o o2 r l) {b : Bl} (h1 : tmB b.ask = true) (h2 : tmB b.dn = true) (h3 : tmB b.gr = true) : hearM endF (endK o o2 r l d) 1 b = (endK o o2 r { l with pa := b.ask, pd := b.dn, pg := b.gr } d, 0) := by
  unfold hearM
  rw [end_fit h, show hasB endF.secs 1 = true from end_has1, h1, h2, h3, if_neg (by decide), if_neg (by decide), if_neg (by decide)]
  rfl
theorem end_tell (o o2 : Int) (r : Rs) (l : Ln) (d : Bool) : tellM (endK o o2 r l d) 1 = ⟨l.ask, l.dn, l.told⟩ := rfl
end Go.Proofs.Ytnnacdkijeoeoaa.Bk
/- An end of a line, as the laws make it; its first state, all free; what is seen of it. -/
namespace Go.Proofs.Ytnnacdkijeoeoaa.Bk
open Go.RowKit Lk Nk

def endC (b : Nat) : Cm := ⟨some ⟨b, 0, none⟩, 2, [⟨0, 0, 1⟩, ⟨0, 0, 0⟩], some ⟨b + 1, 0, none⟩, 1, [⟨0, 0, 1, 1⟩], some ⟨b + 2, 0, none⟩, 1, [⟨1, 1⟩], none, 0, [], some ⟨b + 4, 0, none⟩, 1,
  [⟨0, -1, some ⟨b + 3, 0, none⟩, 1, [⟨0, 0, 1⟩], none, 0, [], none, 0, [], false⟩], ⟨2, 1, 4, 1000⟩⟩
theorem endC_cf (b : Nat) : (endC b).cf = endF := rfl
def endW (w : World) : World := (((((w.alloc (.cells (endC (w.heap.size + 1)).arr 30)).alloc (.cells (cellsS [⟨0, 0, 1⟩, ⟨0, 0, 0⟩]).toArray 73)).alloc (.cells (cellsJ [⟨0, 0, 1, 1⟩]).toArray 75)).alloc (.cells (cellsG [⟨1, 1⟩]).toArray 77)).alloc (.cells (cellsT [⟨0, 0, 1⟩]).toArray 79)).alloc (.cells (cellsR (endC (w.heap.size + 1)).rs).toArray 83)
theorem endW_fr (w : World) : Fr (fun _ => False) w (endW w) := ((((((Fr.refl (fun _ => False) _).alloc _).alloc _).alloc _).alloc _).alloc _).alloc _
theorem endW_cf (w : World) : Is (endW w) w.heap.size 30 (endC (w.heap.size + 1)).arr := (Is.new w _ _).fr ((((((Fr.refl (fun _ => False) _).alloc _).alloc _).alloc _).alloc _).alloc _) id
theorem endW_ok (w : World) : (endC (w.heap.size + 1)).Ok (endW w) := by
  have r1 : Rd (endW w) (some ⟨w.heap.size + 1, 0, none⟩) (cellsS [⟨0, 0, 1⟩, ⟨0, 0, 0⟩]) := (lit_rd_at (by simp) (cellsS [⟨0, 0, 1⟩, ⟨0, 0, 0⟩]) _).fr (((((Fr.refl (fun _ => False) _).alloc _).alloc _).alloc _).alloc _) fun _ _ => id
  have r2 : Rd (endW w) (some ⟨w.heap.size + 2, 0, none⟩) (cellsJ [⟨0, 0, 1, 1⟩]) := (lit_rd_at (by simp) (cellsJ [⟨0, 0, 1, 1⟩]) _).fr ((((Fr.refl (fun _ => False) _).alloc _).alloc _).alloc _) fun _ _ => id
  have r3 : Rd (endW w) (some ⟨w.heap.size + 3, 0, none⟩) (cellsG [⟨1, 1⟩]) := (lit_rd_at (by simp) (cellsG [⟨1, 1⟩]) _).fr (((Fr.refl (fun _ => False) _).alloc _).alloc _) fun _ _ => id
  have r4 : Rd (endW w) (some ⟨w.heap.size + 4, 0, none⟩) (cellsT [⟨0, 0, 1⟩]) := (lit_rd_at (by simp) (cellsT [⟨0, 0, 1⟩]) _).fr ((Fr.refl (fun _ => False) _).alloc _) fun _ _ => id
  have r6 : Rd (endW w) (some ⟨w.heap.size + 5, 0, none⟩) (cellsR (endC (w.heap.size + 1)).rs) := lit_rd_at (by simp) (cellsR (endC (w.heap.size + 1)).rs) _
  have nr : ∀ {xs : List Value}, xs = [] → Rd (endW w) none xs := fun e h => by rw [e] at h; simp at h
  refine ⟨r1, r2, r3, nr rfl, r6, ?_, by simp [endC], by simp [endC], by simp [endC], by simp [endC], by simp [endC], by simp [endC], by simp [endC], by simp [endC], by simp [endC], by simp [endC], by simp [endC], by simp [endC], by simp [endC], by simp [endC], by simp [endC]⟩
  intro r hr
  simp only [endC, List.mem_cons, List.not_mem_nil, or_false] at hr
  subst hr
  exact ⟨r4, nr rfl, nr rfl, by simp, by simp, by simp, by simp, by simp, by simp, by simp, by simp, by simp⟩
set_option maxRecDepth 100000 in
set_option maxHeartbeats 4000000 in
theorem end15_any (w : World) : Calls Try.prog 10 #[] w fun e w' => ∃ C : Cm, e = .returned C.val ∧ C.cf = endF ∧ C.cr.length = 0 ∧ C.Ok w' ∧ Fr (fun _ => False) w w' := by
  have h : Calls Try.prog 10 #[] w fun e w' => e = .returned (endC (w.heap.size + 1)).val ∧ w' = endW w := by
    go_enter Try.func10, Try.ntmps10
    go_wp2_with fail
    have hi := endW_cf w
    have m0 := hi.cell 0
    have m1 := hi.cell 1
    have m2 := hi.cell 2
    have m3 := hi.cell 3
    have m4 := hi.cell 4
    have m5 := hi.cell 5
    have m6 := hi.cell 6
    have m7 := hi.cell 7
    have m8 := hi.cell 8
    simp [endC, Cm.arr] at m0 m1 m2 m3 m4 m5 m6 m7 m8
    refine bodyPost_ret (v := (endC (w.heap.size + 1)).val) ?_ rfl ⟨rfl, ?_⟩
    rotate_left
    · rfl
    · show (results Try.f10 _).run Try.prog (endW w) = .ok _ (endW w)
      generalize endW w = Wf at m0 m1 m2 m3 m4 m5 m6 m7 m8 ⊢
      simp [results, Try.results10, go_sem, m0, m1, m2, m3, m4, m5, m6, m7, m8, Cm.val, Cm.arr, endC]
  exact h.mono fun _ _ ⟨he, hw⟩ => ⟨_, he, endC_cf _, rfl, hw ▸ endW_ok w, hw ▸ endW_fr w⟩
theorem Try.infoLk15 : (Try.prog.info? 51).map (fun i => (i.zero, i.size, i.bytes)) = some (some (.agg #[.int .i64 0, .int .i64 0, .bool false]), 3, 24) := by kernel_rfl
theorem mk_lo2 (W : World) : (Instr.makeSlice 38 (.int .i64 2) (.int .i64 2)).run Try.prog W = .ok (.slice (some ⟨W.heap.size, 0, none⟩) 2 2) (W.alloc (.cells #[.int .i64 0, .int .i64 0, .bool false, .int .i64 0, .int .i64 0, .bool false] 51)) := by
  obtain ⟨i0, hi, hz0, hz1, hz2⟩ := info_parts Try.infoLk15
  have h := run_make (P := Try.prog) W 38 51 i0 (.agg #[.int .i64 0, .int .i64 0, .bool false]) Try.underlying38 hi hz0 .i64 .i64 2 2 (by omega) (by omega) (by rw [hz2]; omega) (by omega)
  rw [hz1] at h
  have e : madeCells (Value.cells (.agg #[.int .i64 0, .int .i64 0, .bool false])) (Int.toNat 2 * 3) = #[.int .i64 0, .int .i64 0, .bool false, .int .i64 0, .int .i64 0, .bool false] := by kernel_rfl
  rw [h, e]
  rfl
def seenSp (occ stamp : Int) : Sp := ⟨fun v w => ∃ b1 b2 b3, v = .agg #[.slice (some ⟨b1, 0, none⟩) 2 2, .slice (some ⟨b2, 0, none⟩) 2 2, .slice none 0 0, .slice (some ⟨b3, 0, none⟩) 1 1] ∧ Is w b1 51 #[.int .i64 occ, .int .i64 stamp, .bool true, .int .i64 occ, .int .i64 stamp, .bool true] ∧ Is w b2 51 #[.int .i64 0, .int .i64 0, .bool false, .int .i64 0, .int .i64 0, .bool false] ∧ Is w b3 51 #[.int .i64 1, .int .i64 stamp, .bool true], fun _ _ _ ⟨b1, b2, b3, e, h1, h2, h3⟩ f => ⟨b1, b2, b3, e, h1.fr f id, h2.fr f id, h3.fr f id⟩⟩
theorem view4 {w : World} {b : Nat} {v0 v1 v2 v3 : Value} {t : TypeId} (h : Is w b t #[v0, v1, v2, v3]) : w.cell? ⟨b, 0, none⟩ = some v0 ∧ w.cell? ⟨b, 1, none⟩ = some v1 ∧ w.cell? ⟨b, 2, none⟩ = some v2 ∧ w.cell? ⟨b, 3, none⟩ = some v3 := ⟨h.cell 0, h.cell 1, h.cell 2, h.cell 3⟩
theorem is_rd {w : World} {b : Nat} {t : TypeId} {cs : List Value} (h : Is w b t cs.toArray) : Rd w (some ⟨b, 0, none⟩) cs := fun _ => ⟨b, 0, rfl, h.lt, fun j u hj => by rw [Nat.zero_add]; have := h.cell j; rw [this]; simpa using hj⟩
set_option maxRecDepth 100000 in
set_option maxHeartbeats 4000000 in
theorem seen15_any (occ stamp : Int) (w : World) : Calls Try.prog 13 #[.int .i64 occ, .int .i64 stamp] w fun e w' => ∃ V : Vm, e = .returned V.val ∧ V.vp = seenV occ stamp ∧ V.Ok w' ∧ Fr (fun _ => False) w w' := by
  have HZ : Hid (Is (w.alloc (.cells #[.slice none 0 0, .slice none 0 0, .slice none 0 0, .slice none 0 0] 40)) w.heap.size 40 #[.slice none 0 0, .slice none 0 0, .slice none 0 0, .slice none 0 0]) := Lib.hid (Is.new w _ _)
  have HF0 := Lib.hid (((Fr.refl (fun _ => False) w).alloc (.cells #[.slice none 0 0, .slice none 0 0, .slice none 0 0, .slice none 0 0] 40)).alloc (.cells #[.int .i64 occ, .int .i64 stamp, .bool true] 51))
  have hl := Is.new (w.alloc (.cells #[.slice none 0 0, .slice none 0 0, .slice none 0 0, .slice none 0 0] 40)) 51 #[.int .i64 occ, .int .i64 stamp, .bool true]
  simp only [World.size_alloc] at hl
  have HL := Lib.hid hl
  clear hl
  have HZ := Lib.hid (HZ.out.alloc (.cells #[.int .i64 occ, .int .i64 stamp, .bool true] 51))
  go_enter Try.func13, Try.ntmps13
  go_upto_region 2 with fail
  generalize (w.alloc _).alloc _ = w1 at *
  have HS : Hid (∀ W, Fr (fun _ => False) w1 W → W.cell? ⟨w.heap.size + 1, 0, none⟩ = some (.int .i64 occ) ∧ W.cell? ⟨w.heap.size + 1, 1, none⟩ = some (.int .i64 stamp) ∧ W.cell? ⟨w.heap.size + 1, 2, none⟩ = some (.bool true)) := Lib.hid fun W f => three_cells (HL.out.fr f id)
  refine region_late 8 [9, 10, 11, 12, 13, 14, 15, 16] [(9, .val (.agg #[.int .i64 occ, .int .i64 stamp, .bool true])), (10, .val (.agg #[.int .i64 occ, .int .i64 stamp, .bool true])), (11, .made 0 51 2 #[.int .i64 occ, .int .i64 stamp, .bool true, .int .i64 occ, .int .i64 stamp, .bool true]), (12, .made 0 51 2 #[.int .i64 0, .int .i64 0, .bool false, .int .i64 0, .int .i64 0, .bool false]), (13, .val (.int .i64 stamp)), (14, .val (.agg #[.int .i64 1, .int .i64 stamp, .bool true])), (15, .made 0 51 1 #[.int .i64 1, .int .i64 stamp, .bool true]), (16, seenSp occ stamp)] (by kernel_rfl) (by kernel_rfl) (by kernel_rfl) (by decide) (by kernel_rfl) (by kernel_rfl) (by kernel_rfl) ?_ ?_
  · intro i o ho him
    have hcase : i = 0 ∨ i = 1 ∨ i = 2 ∨ i = 3 ∨ i = 4 ∨ i = 5 ∨ i = 6 ∨ i = 7 := by omega
    clear him
    rcases hcase with rfl | rfl | rfl | rfl | rfl | rfl | rfl | rfl <;> (injection ho with ho; subst ho; intro a' w' hf hl)
    · have e5 : a'.eval (.tmp 5) = .pointer (some ⟨w.heap.size + 1, 0, none⟩) := hl 5 (by decide)
      obtain ⟨c0, c1, c2⟩ := HS.out w' ((Fr.refl _ _).drew.trans hf fun _ _ h => h)
      refine l_of rfl (v := .agg #[.int .i64 occ, .int .i64 stamp, .bool true]) (w' := w') (by clear hl; revert e5; generalize a'.eval = ev; intro e5; go_simp) (putL' (Fr.refl _ _) rfl)
    · have e5 : a'.eval (.tmp 5) = .pointer (some ⟨w.heap.size + 1, 0, none⟩) := hl 5 (by decide)
      obtain ⟨c0, c1, c2⟩ := HS.out w' ((Fr.refl _ _).drew.trans hf fun _ _ h => h)
      refine l_of rfl (v := .agg #[.int .i64 occ, .int .i64 stamp, .bool true]) (w' := w') (by clear hl; revert e5; generalize a'.eval = ev; intro e5; go_simp) (putL' (Fr.refl _ _) rfl)
    · have e9 : a'.eval (.tmp 9) = .agg #[.int .i64 occ, .int .i64 stamp, .bool true] := hl 9 (by decide)
      have e10 : a'.eval (.tmp 10) = .agg #[.int .i64 occ, .int .i64 stamp, .bool true] := hl 10 (by decide)
      refine l_of rfl (v := .slice (some ⟨w'.heap.size, 0, none⟩) 2 2) (w' := w'.alloc (.cells #[.int .i64 occ, .int .i64 stamp, .bool true, .int .i64 occ, .int .i64 stamp, .bool true] 51)) (by clear hl; revert e9 e10; generalize a'.eval = ev; intro e9 e10; go_simp) (putL' ((Fr.refl _ _).alloc _) ⟨_, rfl, Is.new _ _ _, Nat.zero_le _⟩)
    · have hmk := mk_lo2 w'
      have e2 : a'.eval (.const (.int .i64 2)) = .int .i64 2 := rfl
      refine l_of rfl (v := .slice (some ⟨w'.heap.size, 0, none⟩) 2 2) (w' := w'.alloc (.cells #[.int .i64 0, .int .i64 0, .bool false, .int .i64 0, .int .i64 0, .bool false] 51)) (by clear hl; revert e2; generalize a'.eval = ev; intro e2; go_simp) (putL' ((Fr.refl _ _).alloc _) ⟨_, rfl, Is.new _ _ _, Nat.zero_le _⟩)
    · have e1 : a'.eval (.tmp 1) = .int .i64 stamp := hl 1 (by decide)
      refine l_of rfl (v := .int .i64 stamp) (w' := w') (by clear hl; revert e1; generalize a'.eval = ev; intro e1; go_simp) (putL' (Fr.refl _ _) rfl)
    · have e13 : a'.eval (.tmp 13) = .int .i64 stamp := hl 13 (by decide)
      have e2 : a'.eval (.const (.int .i64 1)) = .int .i64 1 := rfl
      have e3 : a'.eval (.const (.bool true)) = .bool true := rfl
      refine l_of rfl (v := .agg #[.int .i64 1, .int .i64 stamp, .bool true]) (w' := w') (by clear hl; revert e13 e2 e3; generalize a'.eval = ev; intro e13 e2 e3; go_simp) (putL' (Fr.refl _ _) rfl)
    · have e14 : a'.eval (.tmp 14) = .agg #[.int .i64 1, .int .i64 stamp, .bool true] := hl 14 (by decide)
      refine l_of rfl (v := .slice (some ⟨w'.heap.size, 0, none⟩) 1 1) (w' := w'.alloc (.cells #[.int .i64 1, .int .i64 stamp, .bool true] 51)) (by clear hl; revert e14; generalize a'.eval = ev; intro e14; go_simp) (putL' ((Fr.refl _ _).alloc _) ⟨_, rfl, Is.new _ _ _, Nat.zero_le _⟩)
    · obtain ⟨b1, e1, i1, -⟩ := (hl 11 (by decide) : (Sp.made _ _ _ _).p _ _)
      obtain ⟨b2, e2, i2, -⟩ := (hl 12 (by decide) : (Sp.made _ _ _ _).p _ _)
      obtain ⟨b3, e3, i3, -⟩ := (hl 15 (by decide) : (Sp.made _ _ _ _).p _ _)
      refine l_of rfl (v := .agg #[.slice (some ⟨b1, 0, none⟩) 2 2, .slice (some ⟨b2, 0, none⟩) 2 2, .slice none 0 0, .slice (some ⟨b3, 0, none⟩) 1 1]) (w' := w') (by clear hl; revert e1 e2 e3; generalize a'.eval = ev; intro e1 e2 e3; go_simp) (putL' (Fr.refl _ _) ⟨b1, b2, b3, rfl, i1, i2, i3⟩)
  · intro val w2 hf hT
    obtain ⟨b1, b2, b3, e16, i1, i2, i3⟩ := (hT 16 (by decide) : (seenSp _ _).p _ _)
    have ibx := HZ.out.fr ((Fr.refl (fun _ => False) w1).drew.trans hf fun _ _ h => h) id
    have HFW := Lib.hid (fr_nil HF0.out ((Fr.refl (fun _ => False) w1).drew.trans hf fun _ _ h => h))
    simp only [laidL, List.foldl_cons, List.foldl_nil, e16]
    clear hT
    generalize val 9 = v9; generalize val 10 = v10; generalize val 11 = v11; generalize val 12 = v12; generalize val 13 = v13; generalize val 14 = v14; generalize val 15 = v15
    simp only [List.setIfInBounds_toArray, List.set_cons_succ, List.set_cons_zero]
    obtain ⟨m0, m1, m2, m3⟩ := view4 ibx
    have z0 := ibx.frozen 0
    have z1 := ibx.frozen 1
    have z2 := ibx.frozen 2
    have z3 := ibx.frozen 3
    have ist := ((((ibx.set 0 (.slice (some ⟨b1, 0, none⟩) 2 2)).set 1 (.slice (some ⟨b2, 0, none⟩) 2 2)).set 2 (.slice none 0 0)).set 3 (.slice (some ⟨b3, 0, none⟩) 1 1))
    have fst := (((((Fr.refl (fun q => q = w.heap.size) w2).setCell (p := ⟨w.heap.size, 0, none⟩) (.inl rfl) (.slice (some ⟨b1, 0, none⟩) 2 2)).setCell (p := ⟨w.heap.size, 1, none⟩) (.inl rfl) (.slice (some ⟨b2, 0, none⟩) 2 2)).setCell (p := ⟨w.heap.size, 2, none⟩) (.inl rfl) (.slice none 0 0)).setCell (p := ⟨w.heap.size, 3, none⟩) (.inl rfl) (.slice (some ⟨b3, 0, none⟩) 1 1))
    have hno : ∀ b cs, Is w2 b 51 cs → ¬ b = w.heap.size := fun b cs h => is_ne h ibx (by decide)
    have q1 := i1.fr fst (hno _ _ i1)
    have q2 := i2.fr fst (hno _ _ i2)
    have q3 := i3.fr fst (hno _ _ i3)
    have HFW := Lib.hid (HFW.out.trans fst fun q hq e => by omega)
    simp only [List.setIfInBounds_toArray, List.set_cons_zero, List.set_cons_succ] at ist
    refine tail1 rfl rfl rfl (w' := ((((w2.setCell ⟨w.heap.size, 0, none⟩ (.slice (some ⟨b1, 0, none⟩) 2 2)).setCell ⟨w.heap.size, 1, none⟩ (.slice (some ⟨b2, 0, none⟩) 2 2)).setCell ⟨w.heap.size, 2, none⟩ (.slice none 0 0)).setCell ⟨w.heap.size, 3, none⟩ (.slice (some ⟨b3, 0, none⟩) 1 1))) (by go_simp) ?_
    generalize ((((w2.setCell ⟨w.heap.size, 0, none⟩ (.slice (some ⟨b1, 0, none⟩) 2 2)).setCell ⟨w.heap.size, 1, none⟩ (.slice (some ⟨b2, 0, none⟩) 2 2)).setCell ⟨w.heap.size, 2, none⟩ (.slice none 0 0)).setCell ⟨w.heap.size, 3, none⟩ (.slice (some ⟨b3, 0, none⟩) 1 1)) = W at *
    have hV : (⟨some ⟨b1, 0, none⟩, 2, [⟨occ, stamp, true⟩, ⟨occ, stamp, true⟩], some ⟨b2, 0, none⟩, 2, [default, default], none, 0, [], some ⟨b3, 0, none⟩, 1, [⟨1, stamp, true⟩]⟩ : Vm).Ok W :=
      ⟨is_rd q1, is_rd q2, fun h => by simp at h, is_rd q3⟩
    have HV := Lib.hid hV
    have HW := Lib.hid HFW.out
    clear m0 m1 m2 m3 z0 z1 z2 z3
    obtain ⟨m0, m1, m2, m3⟩ := view4 ist
    clear ibx fst hno q1 q2 q3 i1 i2 i3 e16 hV HFW HF0 HZ HS HL hf ist
    go_wp2_with fail
    refine bodyPost_ret (v := (⟨some ⟨b1, 0, none⟩, 2, [⟨occ, stamp, true⟩, ⟨occ, stamp, true⟩], some ⟨b2, 0, none⟩, 2, [default, default], none, 0, [], some ⟨b3, 0, none⟩, 1, [⟨1, stamp, true⟩]⟩ : Vm).val) ?_ rfl ⟨_, rfl, rfl, HV.out, HW.out⟩
    unfold Vm.val Vm.arr
    simp [results, Try.results13, go_sem, m0, m1, m2, m3]
set_option maxHeartbeats 4000000 in
set_option maxRecDepth 100000 in
theorem fresh_any (w : World) : Calls Try.prog 11 #[] w (Back w freshK) := by
  have HF00 := Lib.hid ((Fr.refl (fun _ => False) w).alloc (.cells #[.slice none 0 0, .slice none 0 0, .slice none 0 0, .slice none 0 0, .slice none 0 0, .slice none 0 0, .bool false] 35))
  have HIR0 := Lib.hid (Is.new w 35 #[.slice none 0 0, .slice none 0 0, .slice none 0 0, .slice none 0 0, .slice none 0 0, .slice none 0 0, .bool false])
  have hz1 : (w.alloc (.cells #[.slice none 0 0, .slice none 0 0, .slice none 0 0, .slice none 0 0, .slice none 0 0, .slice none 0 0, .bool false] 35)).heap.size = w.heap.size + 1 := by simp
  go_enter Try.func11, Try.ntmps11
  go_upto_region 1 with (fail)
  generalize w.alloc _ = w00 at *
  go_wp2_with fail
  refine (end15_any _).mono ?_
  rintro _ w1 ⟨C, rfl, hcf, hcr, hC, f1⟩
  have HN1 : Hid (w.heap.size + 1 ≤ w1.heap.size) := Lib.hid (by have := f1.size; omega)
  have HF0 := Lib.hid (fr_nil HF00.out f1)
  have HIR := Lib.hid (HIR0.out.fr f1 id)
  have hcb := hC.b1
  have KB := new_any w1 hC (by rw [hcr]; decide) 0
  rw [hcf] at KB
  clear hz1 hC f1 HF00 HIR0 hcr
  unfold Cm.val Cm.arr at *
  go_wp2_with fail
  refine KB.mono ?_
  rintro _ w2 ⟨K, rfl, hk, ho, f2⟩
  have HKP := Lib.hid hk
  have HBX := Lib.hid (bx_made ho f2)
  clear hk ho f2 KB
  unfold Km.val Km.arr
  go_upto_region 2 with fail
  generalize hw3 : World.alloc _ _ = w3 at *
  generalize w2.heap.size = kb at *
  clear hw3
  have c0 : w3.cell? ⟨kb, 0, none⟩ = some (.slice K.A1 K.own.length K.c1) := HBX.out.is.cell 0
  have HE0 : Hid (K.own = fillP freeM (-1) K.own 0) := Lib.hid (by
    have h : K.own = endF.secs.map fun _ => -1 := congrArg Kp.own HKP.out
    rw [fillP_zero, h]
    rfl)
  have HLB : Hid (K.own.length * 24 ≤ 140737488351232) := Lib.hid (by
    have h : K.own = endF.secs.map fun _ => -1 := congrArg Kp.own HKP.out
    rw [h]
    decide)
  go_wp2_with fail
  clear c0
  go_loopw [8] (fun i wr => ∃ k, k ≤ K.own.length ∧ i = .int .i64 (k : Nat) ∧ Bx w1 wr kb { K with own := fillP freeM (-1) K.own k }) (fun i _ => K.own.length - (intOf i).toNat)
  case atStart => exact ⟨0, Nat.zero_le _, rfl, by rw [← HE0.out]; exact HBX.out⟩
  case round =>
    clear HBX
    obtain ⟨k, hk, rfl, hbx⟩ := hrel
    have HZ := Lib.hid hbx
    clear hbx
    by_cases hlt : k < K.own.length
    · obtain ⟨g, hA, -, -⟩ := own_some HZ.out.own.own (by show 0 < (fillP _ _ _ _).length; rw [fillP_len _ _ _ _ (by omega)]; omega)
      have hA : K.A1 = some ⟨g, 0, none⟩ := hA
      obtain ⟨HVN, c0, ⟨u, cu⟩, zu⟩ := bx_own1 HZ.out hA hlt
      have i1 : (0 : Int) ≤ (k : Int) := by omega
      have i2 : (k : Int) < (K.own.length : Int) := by omega
      have i5 : (k : Int) < 140737488351232 := by have := HLB.out; omega
      clear hA HE0
      go_wp2_with fail
      go_roundw
      case rel => exact ⟨k + 1, by omega, by go_num, HVN.out⟩
      case measure => simp [intOf]; omega
    · have hkn : k = K.own.length := by omega
      subst hkn
      have HV0 : Hid (Bx w1 wr kb { K with own := K.own.map freeM }) := Lib.hid (by
        have := HZ.out
        rw [fillP_all _ _ _ _ (Nat.le_refl _)] at this
        exact this)
      have HV1 := Lib.hid (HV0.out.dirt false)
      have cd : wr.cell? ⟨kb, 6, none⟩ = some (.bool K.dirty) := HV0.out.is.cell 6
      have zd := HV0.out.is.frozen 6
      have HQ : Hid (({ K with own := K.own.map freeM, dirty := false } : Km).kp = freshK) := Lib.hid (by
        have h := HKP.out
        unfold Km.kp newM at h
        simp only [Kp.mk.injEq] at h
        obtain ⟨h1, h2, h3, h4, h5, h6, h7⟩ := h
        rw [← fresh_open]
        unfold Km.kp openM newM
        simp only [Kp.mk.injEq]
        refine ⟨?_, h2, h3, h4, h5, h6, trivial⟩
        rw [h1, List.map_map]
        rfl)
      clear hlt hk HZ HKP HE0
      go_upto_region 8 with fail
      clear cd zd
      generalize ({ K with own := K.own.map freeM, dirty := false } : Km) = K3 at HQ HV1
      have HV := HV1
      clear HV1 HV0
      generalize wr.setCell ⟨kb, 6, none⟩ (.bool false) = wq at *
      obtain ⟨k0, k1, k2, k3, k4, k5, k6⟩ := core_cells (K := K3) HV.out.is
      have isr := HIR.out.fr HV.out.f id
      obtain ⟨m0, m1, m2, m3, m4, m5, m6⟩ := seven isr
      have z0x := isr.frozen 0
      have z1x := isr.frozen 1
      have z2x := isr.frozen 2
      have z3x := isr.frozen 3
      have z4x := isr.frozen 4
      have z5x := isr.frozen 5
      have z6x := isr.frozen 6
      have isR := (((((((isr.set 0 (.slice K3.A1 K3.own.length K3.c1)).set 1 (.slice K3.A2 K3.rts.length K3.c2)).set 2 (.slice K3.A3 K3.pts.length K3.c3)).set 3 (.slice K3.A4 K3.crs.length K3.c4)).set 4 (.slice K3.A5 K3.lns.length K3.c5)).set 5 (.slice K3.A6 K3.rss.length K3.c6)).set 6 (.bool K3.dirty))
      have fR := ((((((((Fr.refl (fun q => q = w.heap.size) wq).setCell (p := ⟨w.heap.size, 0, none⟩) (.inl rfl) (.slice K3.A1 K3.own.length K3.c1)).setCell (p := ⟨w.heap.size, 1, none⟩) (.inl rfl) (.slice K3.A2 K3.rts.length K3.c2)).setCell (p := ⟨w.heap.size, 2, none⟩) (.inl rfl) (.slice K3.A3 K3.pts.length K3.c3)).setCell (p := ⟨w.heap.size, 3, none⟩) (.inl rfl) (.slice K3.A4 K3.crs.length K3.c4)).setCell (p := ⟨w.heap.size, 4, none⟩) (.inl rfl) (.slice K3.A5 K3.lns.length K3.c5)).setCell (p := ⟨w.heap.size, 5, none⟩) (.inl rfl) (.slice K3.A6 K3.rss.length K3.c6)).setCell (p := ⟨w.heap.size, 6, none⟩) (.inl rfl) (.bool K3.dirty))
      simp only [List.setIfInBounds_toArray, List.set_cons_zero, List.set_cons_succ] at isR
      go_wp2_with fail
      generalize hW : World.setCell _ _ _ = W at *
      have d0 := isR.cell 0
      have d1 := isR.cell 1
      have d2 := isR.cell 2
      have d3 := isR.cell 3
      have d4 := isR.cell 4
      have d5 := isR.cell 5
      have d6 := isR.cell 6
      have hn1 : w.heap.size + 1 ≤ w1.heap.size := HN1.out
      have HOW : K3.Own w.heap.size W := (HV.out.own.fr fR fun k hk e => by have a := (HV.out.own.lt k hk).1; omega).base (by omega)
      have FW : Fr (fun _ => False) w W := (fr_nil HF0.out HV.out.f).trans fR fun k hk e => by omega
      refine bodyPost_ret (v := K3.val) ?_ rfl ⟨K3, rfl, HQ.out, HOW, FW⟩
      unfold Km.val Km.arr
      simp [results, Try.results11, go_sem, d0, d1, d2, d3, d4, d5, d6]
end Go.Proofs.Ytnnacdkijeoeoaa.Bk
/- The laws' first line: the chapter's example 1 (written by gen/lives15.py). -/
namespace Go.Proofs.Ytnnacdkijeoeoaa.Bk
open Go.RowKit Lk Nk

def ln1 (l : Ln) : Kp := endK 0 0 default l false
theorem fresh_ok : EndOk 0 0 default default := ⟨by decide, by decide, by decide, by decide⟩
theorem ex_hear : hearM endF freshK 1 ⟨1, 0, 0⟩ = (endK 0 0 default { (default : Ln) with pa := 1 } false, 0) := end_hear fresh_ok (by decide) (by decide) (by decide)
def exB : Kp := endK (-2) 0 default { (default : Ln) with gr := 1, pa := 1 } true
theorem ex_step : bstepM endF (seenV 0 9) 9 (endK 0 0 default { (default : Ln) with pa := 1 } false) = (exB, 0) := by
  rw [end_step ⟨by decide, by decide, by decide, by decide⟩ (by decide)]
  rfl
theorem end_fitp {o o2 : Int} {r : Rs} {l : Ln} {d : Bool} (h : EndOk o o2 r l) : FitP endF (endK o o2 r l d) := fits_iff.1 (end_fit h)
/-- a state of an end that can be read -/
theorem endK_ok {B : Nat} {w : World} {K : Km} {o o2 : Int} {r : Rs} {l : Ln} {d : Bool} (ho : K.Own B w) (hk : K.kp = endK o o2 r l d) (h : EndOk o o2 r l) : K.Ok w := fit_ok ho (c := endF) (by rw [hk]; exact end_fitp h)
set_option maxRecDepth 100000 in
set_option maxHeartbeats 16000000 in
theorem lives15_any (w : World) : Calls Try.prog 6 #[] w fun e w' => e = .returned (.bool true) ∧ Fr (fun _ => False) w w' := by
  go_enter Try.func6, Try.ntmps6
  go_wp2_with fail
  refine (end15_any _).mono ?_
  rintro _ w1 ⟨C, rfl, hcf, -, hC, f1⟩
  have HIC := Lib.hid (Is.new w1 30 C.arr)
  have HF := Lib.hid (f1.alloc (.cells C.arr 30))
  have HC := Lib.hid (hC.fr ((Fr.refl (fun _ => False) w1).alloc (.cells C.arr 30)))
  have HCF := Lib.hid hcf
  clear f1 hC hcf
  unfold Cm.val Cm.arr at *
  go_upto_region 2 with fail
  generalize w1.alloc _ = w2 at *
  generalize w1.heap.size = cb at *
  go_cut [2, 3] from 6 (fun v2 v3 wx => ∃ (nb : Nat) (K2 : Km), v2 = .pointer (some ⟨nb, 0, none⟩) ∧ v3 = .int .i64 0 ∧ K2.kp = endK 0 0 default { (default : Ln) with pa := 1 } false ∧ Bx w2 wx nb K2)
  case first =>
    have KH : ∀ K : Km, K.kp = freshK → ∀ W, Fr (fun _ => False) w2 W → ∀ {B : Nat}, K.Own B W → Calls Try.prog 9 #[.agg #[.slice C.A1 C.l.length C.c1, .slice C.A2 C.js.length C.c2, .slice C.A3 C.sg.length C.c3, .slice C.A4 C.cr.length C.c4, .slice C.A5 C.rs.length C.c5, .int .i64 C.tm.age, .int .i64 C.tm.brake, .int .i64 C.tm.hold, .int .i64 C.tm.budget], K.val, .int .i64 1, .agg #[.int .i64 1, .int .i64 0, .int .i64 0]] W (Out W (endK 0 0 default { (default : Ln) with pa := 1 } false, 0)) := fun K hk W f B ho => by
      have := hear_any (HC.out.fr f) (endK_ok ho hk fresh_ok) 1 ⟨1, 0, 0⟩
      rw [hk, HCF.out, ex_hear] at this
      exact this
    have HS : Hid (∀ W, Fr (fun _ => False) w2 W → (fun Wx => Wx.cell? ⟨cb, 0, none⟩ = some (.slice C.A1 C.l.length C.c1) ∧ Wx.cell? ⟨cb, 1, none⟩ = some (.slice C.A2 C.js.length C.c2) ∧ Wx.cell? ⟨cb, 2, none⟩ = some (.slice C.A3 C.sg.length C.c3) ∧ Wx.cell? ⟨cb, 3, none⟩ = some (.slice C.A4 C.cr.length C.c4) ∧ Wx.cell? ⟨cb, 4, none⟩ = some (.slice C.A5 C.rs.length C.c5) ∧ Wx.cell? ⟨cb, 5, none⟩ = some (.int .i64 C.tm.age) ∧ Wx.cell? ⟨cb, 6, none⟩ = some (.int .i64 C.tm.brake) ∧ Wx.cell? ⟨cb, 7, none⟩ = some (.int .i64 C.tm.hold) ∧ Wx.cell? ⟨cb, 8, none⟩ = some (.int .i64 C.tm.budget)) W) := Lib.hid fun W fW => nine9 (HIC.out.fr fW id)
    have HG := Lib.hid (Fr.refl (fun _ => False) w2).drew
    refine wp_region_held_drew (S := (fun Wx => Wx.cell? ⟨cb, 0, none⟩ = some (.slice C.A1 C.l.length C.c1) ∧ Wx.cell? ⟨cb, 1, none⟩ = some (.slice C.A2 C.js.length C.c2) ∧ Wx.cell? ⟨cb, 2, none⟩ = some (.slice C.A3 C.sg.length C.c3) ∧ Wx.cell? ⟨cb, 3, none⟩ = some (.slice C.A4 C.cr.length C.c4) ∧ Wx.cell? ⟨cb, 4, none⟩ = some (.slice C.A5 C.rs.length C.c5) ∧ Wx.cell? ⟨cb, 5, none⟩ = some (.int .i64 C.tm.age) ∧ Wx.cell? ⟨cb, 6, none⟩ = some (.int .i64 C.tm.brake) ∧ Wx.cell? ⟨cb, 7, none⟩ = some (.int .i64 C.tm.hold) ∧ Wx.cell? ⟨cb, 8, none⟩ = some (.int .i64 C.tm.budget))) (by kernel_rfl) (HS.out _ (Fr.refl _ w2).drew) (fun hHeld => ?_)
    generalize w2.drew = wdr at *
    refine wpAnyH_take (i := 0) (oi := { dst := some 8, op := _, type := _, pos := _, after := _, guard := _ }) (v := ?_) rfl (by kernel_rfl) (by kernel_rfl) (by kernel_rfl) (fun _ _ _ h => h) (Or.inl ⟨by rfl, ?_⟩) (by assumption) ?_
    rotate_left
    · intro Wx hSw
      try dsimp only at hSw
      go_simp
      try with_reducible rfl
    try simp only [Act.put, List.setIfInBounds_toArray, List.set_cons_zero, List.set_cons_succ]
    refine wpAnyH_take (i := 2) (oi := { dst := some 10, op := _, type := _, pos := _, after := _, guard := _ }) (v := ?_) rfl (by kernel_rfl) (by kernel_rfl) (by kernel_rfl) (fun _ _ _ h => h) (Or.inl ⟨by rfl, ?_⟩) (by assumption) ?_
    rotate_left
    · intro Wx hSw
      try dsimp only at hSw
      go_simp
      try with_reducible rfl
    try simp only [Act.put, List.setIfInBounds_toArray, List.set_cons_zero, List.set_cons_succ]
    refine wpAnyH_ready (rs := [1, 7]) (by kernel_rfl) (by simp) (AllReadyH.cons rfl (fun KK hKK => ?_) (AllReadyH.cons rfl (fun KK hKK => ?_) (AllReadyH.nil)))
    · go_simp
      have HGP := HG
      refine (fresh_any _).mono ?_
      rintro _ v0 ⟨K1, rfl, hk1, ho1, fa⟩
      have HG := Lib.hid (fr_nil HG.out fa)
      have HF0 := Lib.hid (Fr.refl (fun _ => False) v0)
      have HK1 := Lib.hid hk1
      have HO1 := Lib.hid ho1
      have KH := KH K1 hk1
      clear hk1 ho1
      unfold Km.val Km.arr at KH ⊢
      clear fa
      (with_reducible refine hKK.out _ _ (HS.out _ HG.out) (fun hHeld => ?_))
      clear hKK KK
      refine wpAnyH_ready (rs := [3, 7]) (by kernel_rfl) (by simp) (AllReadyH.cons rfl (fun KK hKK => ?_) (AllReadyH.cons rfl (fun KK hKK => ?_) (AllReadyH.nil)))
      · go_simp
        have HGP := HG
        refine (KH _ HG.out (HO1.out.fr HF0.out fun _ _ => id)).mono ?_
        rintro _ v1 ⟨K2, rfl, hk2, ho2, fa⟩
        have HG := Lib.hid (fr_nil HG.out fa)
        have HF0 := Lib.hid (fr_nil HF0.out fa)
        have HF1 := Lib.hid (Fr.refl (fun _ => False) v1)
        have HK2 := Lib.hid hk2
        have HO := Lib.hid (ho2.base HGP.out.size)
        clear hk2 ho2 KH
        unfold Km.val Km.arr
        clear fa
        (with_reducible refine hKK.out _ _ (HS.out _ HG.out) (fun hHeld => ?_))
        clear hKK KK
        refine wpAnyH_take (i := 4) (oi := { dst := some 7, op := _, type := _, pos := _, after := _, guard := _ }) (v := ?_) rfl (by kernel_rfl) (by kernel_rfl) (by kernel_rfl) (fun _ _ _ h => h) (Or.inl ⟨by rfl, ?_⟩) (by assumption) ?_
        rotate_left
        · intro Wx hSw
          try dsimp only at hSw
          go_simp
          try with_reducible rfl
        try simp only [Act.put, List.setIfInBounds_toArray, List.set_cons_zero, List.set_cons_succ]
        refine wpAnyH_take (i := 5) (oi := { dst := some 12, op := _, type := _, pos := _, after := _, guard := _ }) (v := ?_) rfl (by kernel_rfl) (by kernel_rfl) (by kernel_rfl) (fun _ _ _ h => h) (Or.inl ⟨by rfl, ?_⟩) (by assumption) ?_
        rotate_left
        · intro Wx hSw
          try dsimp only at hSw
          go_simp
          try with_reducible rfl
        try simp only [Act.put, List.setIfInBounds_toArray, List.set_cons_zero, List.set_cons_succ]
        refine wpAnyH_take (i := 6) (oi := { dst := some 13, op := _, type := _, pos := _, after := _, guard := _ }) (v := ?_) rfl (by kernel_rfl) (by kernel_rfl) (by kernel_rfl) (fun _ _ _ h => h) (Or.inl ⟨by rfl, ?_⟩) (by assumption) ?_
        rotate_left
        · intro Wx hSw
          try dsimp only at hSw
          go_simp
          try with_reducible rfl
        try simp only [Act.put, List.setIfInBounds_toArray, List.set_cons_zero, List.set_cons_succ]
        refine wpAnyH_ready (rs := [7]) (by kernel_rfl) (by simp) (AllReadyH.cons rfl (fun KK hKK => ?_) (AllReadyH.nil))
        go_simp
        have HI := Lib.hid (Is.new (v1) 35 #[.slice none 0 0, .slice none 0 0, .slice none 0 0, .slice none 0 0, .slice none 0 0, .slice none 0 0, .bool false])
        have HNB : Hid (w2.heap.size ≤ (v1).heap.size) := Lib.hid HG.out.size
        have HG9 := HG
        have HG := Lib.hid (HG.out.alloc (.cells #[.slice none 0 0, .slice none 0 0, .slice none 0 0, .slice none 0 0, .slice none 0 0, .slice none 0 0, .bool false] 35))
        have HF09 := HF0
        have HF0 := Lib.hid (HF0.out.alloc (.cells #[.slice none 0 0, .slice none 0 0, .slice none 0 0, .slice none 0 0, .slice none 0 0, .slice none 0 0, .bool false] 35))
        have HF19 := HF1
        have HF1 := Lib.hid (HF1.out.alloc (.cells #[.slice none 0 0, .slice none 0 0, .slice none 0 0, .slice none 0 0, .slice none 0 0, .slice none 0 0, .bool false] 35))
        (with_reducible refine hKK.out _ _ (HS.out _ HG.out) (fun hHeld => ?_))
        clear hKK KK
        refine wpAnyH_ready (rs := [8]) (by kernel_rfl) (by simp) (AllReadyH.cons rfl (fun KK hKK => ?_) (AllReadyH.nil))
        go_simp
        have isr := HI.out
        obtain ⟨m0, m1, m2, m3, m4, m5, m6⟩ := seven isr
        have HBN : Hid (Bx w2 ((v1).alloc (.cells #[.slice K2.A1 K2.own.length K2.c1, .slice K2.A2 K2.rts.length K2.c2, .slice K2.A3 K2.pts.length K2.c3, .slice K2.A4 K2.crs.length K2.c4, .slice K2.A5 K2.lns.length K2.c5, .slice K2.A6 K2.rss.length K2.c6, .bool K2.dirty] 35)) (v1).heap.size K2) := Lib.hid ⟨Is.new _ _ _, (HO.out.fr HF19.out fun _ _ => id).fr ((Fr.refl _ _).alloc _) fun _ _ => id, HG9.out.alloc _, HNB.out⟩
        clear isr
        (with_reducible refine hKK.out _ _ (HS.out _ HBN.out.f) (fun hHeld => ?_))
        clear hKK KK
        clear m0 m1 m2 m3 m4 m5 m6
        refine wpAnyH_take (i := 9) (oi := { dst := some 3, op := _, type := _, pos := _, after := _, guard := _ }) (v := ?_) rfl (by kernel_rfl) (by kernel_rfl) (by kernel_rfl) (fun _ _ _ h => h) (Or.inl ⟨by rfl, ?_⟩) (by assumption) ?_
        rotate_left
        · intro Wx hSw
          try dsimp only at hSw
          go_simp
          try with_reducible rfl
        try simp only [Act.put, List.setIfInBounds_toArray, List.set_cons_zero, List.set_cons_succ]
        refine wpAnyH_done (by kernel_rfl) ?_ _
        go_wp2_with fail
        go_meet
        case rel => exact ⟨_, K2, rfl, rfl, HK2.out, HBN.out⟩
      · go_simp
        have HI := Lib.hid (Is.new (v0) 35 #[.slice none 0 0, .slice none 0 0, .slice none 0 0, .slice none 0 0, .slice none 0 0, .slice none 0 0, .bool false])
        have HNB : Hid (w2.heap.size ≤ (v0).heap.size) := Lib.hid HG.out.size
        have HG9 := HG
        have HG := Lib.hid (HG.out.alloc (.cells #[.slice none 0 0, .slice none 0 0, .slice none 0 0, .slice none 0 0, .slice none 0 0, .slice none 0 0, .bool false] 35))
        have HF09 := HF0
        have HF0 := Lib.hid (HF0.out.alloc (.cells #[.slice none 0 0, .slice none 0 0, .slice none 0 0, .slice none 0 0, .slice none 0 0, .slice none 0 0, .bool false] 35))
        (with_reducible refine hKK.out _ _ (HS.out _ HG.out) (fun hHeld => ?_))
        clear hKK KK
        refine wpAnyH_ready (rs := [3]) (by kernel_rfl) (by simp) (AllReadyH.cons rfl (fun KK hKK => ?_) (AllReadyH.nil))
        go_simp
        have HGP := HG
        refine (KH _ HG.out (HO1.out.fr HF0.out fun _ _ => id)).mono ?_
        rintro _ v1 ⟨K2, rfl, hk2, ho2, fa⟩
        have HG := Lib.hid (fr_nil HG.out fa)
        have HF0 := Lib.hid (fr_nil HF0.out fa)
        have HF1 := Lib.hid (Fr.refl (fun _ => False) v1)
        have HI := Lib.hid (HI.out.fr fa id)
        have HK2 := Lib.hid hk2
        have HO := Lib.hid (ho2.base HGP.out.size)
        clear hk2 ho2 KH
        unfold Km.val Km.arr
        clear fa
        (with_reducible refine hKK.out _ _ (HS.out _ HG.out) (fun hHeld => ?_))
        clear hKK KK
        refine wpAnyH_take (i := 4) (oi := { dst := some 7, op := _, type := _, pos := _, after := _, guard := _ }) (v := ?_) rfl (by kernel_rfl) (by kernel_rfl) (by kernel_rfl) (fun _ _ _ h => h) (Or.inl ⟨by rfl, ?_⟩) (by assumption) ?_
        rotate_left
        · intro Wx hSw
          try dsimp only at hSw
          go_simp
          try with_reducible rfl
        try simp only [Act.put, List.setIfInBounds_toArray, List.set_cons_zero, List.set_cons_succ]
        refine wpAnyH_take (i := 5) (oi := { dst := some 12, op := _, type := _, pos := _, after := _, guard := _ }) (v := ?_) rfl (by kernel_rfl) (by kernel_rfl) (by kernel_rfl) (fun _ _ _ h => h) (Or.inl ⟨by rfl, ?_⟩) (by assumption) ?_
        rotate_left
        · intro Wx hSw
          try dsimp only at hSw
          go_simp
          try with_reducible rfl
        try simp only [Act.put, List.setIfInBounds_toArray, List.set_cons_zero, List.set_cons_succ]
        refine wpAnyH_take (i := 6) (oi := { dst := some 13, op := _, type := _, pos := _, after := _, guard := _ }) (v := ?_) rfl (by kernel_rfl) (by kernel_rfl) (by kernel_rfl) (fun _ _ _ h => h) (Or.inl ⟨by rfl, ?_⟩) (by assumption) ?_
        rotate_left
        · intro Wx hSw
          try dsimp only at hSw
          go_simp
          try with_reducible rfl
        try simp only [Act.put, List.setIfInBounds_toArray, List.set_cons_zero, List.set_cons_succ]
        refine wpAnyH_ready (rs := [8]) (by kernel_rfl) (by simp) (AllReadyH.cons rfl (fun KK hKK => ?_) (AllReadyH.nil))
        have isr := HI.out
        obtain ⟨m0, m1, m2, m3, m4, m5, m6⟩ := seven isr
        have z0 := isr.frozen 0
        have z1 := isr.frozen 1
        have z2 := isr.frozen 2
        have z3 := isr.frozen 3
        have z4 := isr.frozen 4
        have z5 := isr.frozen 5
        have z6 := isr.frozen 6
        go_simp
        have HOn := Lib.hid (HO.out.fr HF1.out fun _ _ => id)
        have isR := (((((((isr.set 0 (.slice K2.A1 K2.own.length K2.c1)).set 1 (.slice K2.A2 K2.rts.length K2.c2)).set 2 (.slice K2.A3 K2.pts.length K2.c3)).set 3 (.slice K2.A4 K2.crs.length K2.c4)).set 4 (.slice K2.A5 K2.lns.length K2.c5)).set 5 (.slice K2.A6 K2.rss.length K2.c6)).set 6 (.bool K2.dirty))
        have fR := ((((((((Fr.refl (fun q => q = (v0).heap.size) (v1)).setCell (p := ⟨(v0).heap.size, 0, none⟩) (.inl rfl) (.slice K2.A1 K2.own.length K2.c1)).setCell (p := ⟨(v0).heap.size, 1, none⟩) (.inl rfl) (.slice K2.A2 K2.rts.length K2.c2)).setCell (p := ⟨(v0).heap.size, 2, none⟩) (.inl rfl) (.slice K2.A3 K2.pts.length K2.c3)).setCell (p := ⟨(v0).heap.size, 3, none⟩) (.inl rfl) (.slice K2.A4 K2.crs.length K2.c4)).setCell (p := ⟨(v0).heap.size, 4, none⟩) (.inl rfl) (.slice K2.A5 K2.lns.length K2.c5)).setCell (p := ⟨(v0).heap.size, 5, none⟩) (.inl rfl) (.slice K2.A6 K2.rss.length K2.c6)).setCell (p := ⟨(v0).heap.size, 6, none⟩) (.inl rfl) (.bool K2.dirty))
        simp only [List.setIfInBounds_toArray, List.set_cons_zero, List.set_cons_succ] at isR
        have HBN : Hid (Bx w2 ((((((((v1).setCell ⟨(v0).heap.size, 0, none⟩ (.slice K2.A1 K2.own.length K2.c1)).setCell ⟨(v0).heap.size, 1, none⟩ (.slice K2.A2 K2.rts.length K2.c2)).setCell ⟨(v0).heap.size, 2, none⟩ (.slice K2.A3 K2.pts.length K2.c3)).setCell ⟨(v0).heap.size, 3, none⟩ (.slice K2.A4 K2.crs.length K2.c4)).setCell ⟨(v0).heap.size, 4, none⟩ (.slice K2.A5 K2.lns.length K2.c5)).setCell ⟨(v0).heap.size, 5, none⟩ (.slice K2.A6 K2.rss.length K2.c6)).setCell ⟨(v0).heap.size, 6, none⟩ (.bool K2.dirty)) (v0).heap.size K2) := Lib.hid ⟨isR, HOn.out.fr fR fun k hk e => HOn.out.ne_is isr (by decide) (by decide) (by decide) (by decide) (e ▸ hk), (((((((HG.out.setCell (p := ⟨(v0).heap.size, 0, none⟩) (.inr HNB.out) (.slice K2.A1 K2.own.length K2.c1)).setCell (p := ⟨(v0).heap.size, 1, none⟩) (.inr HNB.out) (.slice K2.A2 K2.rts.length K2.c2)).setCell (p := ⟨(v0).heap.size, 2, none⟩) (.inr HNB.out) (.slice K2.A3 K2.pts.length K2.c3)).setCell (p := ⟨(v0).heap.size, 3, none⟩) (.inr HNB.out) (.slice K2.A4 K2.crs.length K2.c4)).setCell (p := ⟨(v0).heap.size, 4, none⟩) (.inr HNB.out) (.slice K2.A5 K2.lns.length K2.c5)).setCell (p := ⟨(v0).heap.size, 5, none⟩) (.inr HNB.out) (.slice K2.A6 K2.rss.length K2.c6)).setCell (p := ⟨(v0).heap.size, 6, none⟩) (.inr HNB.out) (.bool K2.dirty)), HNB.out⟩
        clear isR fR isr
        (with_reducible refine hKK.out _ _ (HS.out _ HBN.out.f) (fun hHeld => ?_))
        clear hKK KK
        clear m0 m1 m2 m3 m4 m5 m6 z0 z1 z2 z3 z4 z5 z6
        refine wpAnyH_take (i := 9) (oi := { dst := some 3, op := _, type := _, pos := _, after := _, guard := _ }) (v := ?_) rfl (by kernel_rfl) (by kernel_rfl) (by kernel_rfl) (fun _ _ _ h => h) (Or.inl ⟨by rfl, ?_⟩) (by assumption) ?_
        rotate_left
        · intro Wx hSw
          try dsimp only at hSw
          go_simp
          try with_reducible rfl
        try simp only [Act.put, List.setIfInBounds_toArray, List.set_cons_zero, List.set_cons_succ]
        refine wpAnyH_done (by kernel_rfl) ?_ _
        go_wp2_with fail
        go_meet
        case rel => exact ⟨_, K2, rfl, rfl, HK2.out, HBN.out⟩
    · go_simp
      have HI := Lib.hid (Is.new (wdr) 35 #[.slice none 0 0, .slice none 0 0, .slice none 0 0, .slice none 0 0, .slice none 0 0, .slice none 0 0, .bool false])
      have HNB : Hid (w2.heap.size ≤ (wdr).heap.size) := Lib.hid HG.out.size
      have HG9 := HG
      have HG := Lib.hid (HG.out.alloc (.cells #[.slice none 0 0, .slice none 0 0, .slice none 0 0, .slice none 0 0, .slice none 0 0, .slice none 0 0, .bool false] 35))
      (with_reducible refine hKK.out _ _ (HS.out _ HG.out) (fun hHeld => ?_))
      clear hKK KK
      refine wpAnyH_ready (rs := [1]) (by kernel_rfl) (by simp) (AllReadyH.cons rfl (fun KK hKK => ?_) (AllReadyH.nil))
      go_simp
      have HGP := HG
      refine (fresh_any _).mono ?_
      rintro _ v0 ⟨K1, rfl, hk1, ho1, fa⟩
      have HG := Lib.hid (fr_nil HG.out fa)
      have HF0 := Lib.hid (Fr.refl (fun _ => False) v0)
      have HI := Lib.hid (HI.out.fr fa id)
      have HK1 := Lib.hid hk1
      have HO1 := Lib.hid ho1
      have KH := KH K1 hk1
      clear hk1 ho1
      unfold Km.val Km.arr at KH ⊢
      clear fa
      (with_reducible refine hKK.out _ _ (HS.out _ HG.out) (fun hHeld => ?_))
      clear hKK KK
      refine wpAnyH_ready (rs := [3]) (by kernel_rfl) (by simp) (AllReadyH.cons rfl (fun KK hKK => ?_) (AllReadyH.nil))
      go_simp
      have HGP := HG
      refine (KH _ HG.out (HO1.out.fr HF0.out fun _ _ => id)).mono ?_
      rintro _ v1 ⟨K2, rfl, hk2, ho2, fa⟩
      have HG := Lib.hid (fr_nil HG.out fa)
      have HF0 := Lib.hid (fr_nil HF0.out fa)
      have HF1 := Lib.hid (Fr.refl (fun _ => False) v1)
      have HI := Lib.hid (HI.out.fr fa id)
      have HK2 := Lib.hid hk2
      have HO := Lib.hid (ho2.base HGP.out.size)
      clear hk2 ho2 KH
      unfold Km.val Km.arr
      clear fa
      (with_reducible refine hKK.out _ _ (HS.out _ HG.out) (fun hHeld => ?_))
      clear hKK KK
      refine wpAnyH_take (i := 4) (oi := { dst := some 7, op := _, type := _, pos := _, after := _, guard := _ }) (v := ?_) rfl (by kernel_rfl) (by kernel_rfl) (by kernel_rfl) (fun _ _ _ h => h) (Or.inl ⟨by rfl, ?_⟩) (by assumption) ?_
      rotate_left
      · intro Wx hSw
        try dsimp only at hSw
        go_simp
        try with_reducible rfl
      try simp only [Act.put, List.setIfInBounds_toArray, List.set_cons_zero, List.set_cons_succ]
      refine wpAnyH_take (i := 5) (oi := { dst := some 12, op := _, type := _, pos := _, after := _, guard := _ }) (v := ?_) rfl (by kernel_rfl) (by kernel_rfl) (by kernel_rfl) (fun _ _ _ h => h) (Or.inl ⟨by rfl, ?_⟩) (by assumption) ?_
      rotate_left
      · intro Wx hSw
        try dsimp only at hSw
        go_simp
        try with_reducible rfl
      try simp only [Act.put, List.setIfInBounds_toArray, List.set_cons_zero, List.set_cons_succ]
      refine wpAnyH_take (i := 6) (oi := { dst := some 13, op := _, type := _, pos := _, after := _, guard := _ }) (v := ?_) rfl (by kernel_rfl) (by kernel_rfl) (by kernel_rfl) (fun _ _ _ h => h) (Or.inl ⟨by rfl, ?_⟩) (by assumption) ?_
      rotate_left
      · intro Wx hSw
        try dsimp only at hSw
        go_simp
        try with_reducible rfl
      try simp only [Act.put, List.setIfInBounds_toArray, List.set_cons_zero, List.set_cons_succ]
      refine wpAnyH_ready (rs := [8]) (by kernel_rfl) (by simp) (AllReadyH.cons rfl (fun KK hKK => ?_) (AllReadyH.nil))
      have isr := HI.out
      obtain ⟨m0, m1, m2, m3, m4, m5, m6⟩ := seven isr
      have z0 := isr.frozen 0
      have z1 := isr.frozen 1
      have z2 := isr.frozen 2
      have z3 := isr.frozen 3
      have z4 := isr.frozen 4
      have z5 := isr.frozen 5
      have z6 := isr.frozen 6
      go_simp
      have HOn := Lib.hid (HO.out.fr HF1.out fun _ _ => id)
      have isR := (((((((isr.set 0 (.slice K2.A1 K2.own.length K2.c1)).set 1 (.slice K2.A2 K2.rts.length K2.c2)).set 2 (.slice K2.A3 K2.pts.length K2.c3)).set 3 (.slice K2.A4 K2.crs.length K2.c4)).set 4 (.slice K2.A5 K2.lns.length K2.c5)).set 5 (.slice K2.A6 K2.rss.length K2.c6)).set 6 (.bool K2.dirty))
      have fR := ((((((((Fr.refl (fun q => q = (wdr).heap.size) (v1)).setCell (p := ⟨(wdr).heap.size, 0, none⟩) (.inl rfl) (.slice K2.A1 K2.own.length K2.c1)).setCell (p := ⟨(wdr).heap.size, 1, none⟩) (.inl rfl) (.slice K2.A2 K2.rts.length K2.c2)).setCell (p := ⟨(wdr).heap.size, 2, none⟩) (.inl rfl) (.slice K2.A3 K2.pts.length K2.c3)).setCell (p := ⟨(wdr).heap.size, 3, none⟩) (.inl rfl) (.slice K2.A4 K2.crs.length K2.c4)).setCell (p := ⟨(wdr).heap.size, 4, none⟩) (.inl rfl) (.slice K2.A5 K2.lns.length K2.c5)).setCell (p := ⟨(wdr).heap.size, 5, none⟩) (.inl rfl) (.slice K2.A6 K2.rss.length K2.c6)).setCell (p := ⟨(wdr).heap.size, 6, none⟩) (.inl rfl) (.bool K2.dirty))
      simp only [List.setIfInBounds_toArray, List.set_cons_zero, List.set_cons_succ] at isR
      have HBN : Hid (Bx w2 ((((((((v1).setCell ⟨(wdr).heap.size, 0, none⟩ (.slice K2.A1 K2.own.length K2.c1)).setCell ⟨(wdr).heap.size, 1, none⟩ (.slice K2.A2 K2.rts.length K2.c2)).setCell ⟨(wdr).heap.size, 2, none⟩ (.slice K2.A3 K2.pts.length K2.c3)).setCell ⟨(wdr).heap.size, 3, none⟩ (.slice K2.A4 K2.crs.length K2.c4)).setCell ⟨(wdr).heap.size, 4, none⟩ (.slice K2.A5 K2.lns.length K2.c5)).setCell ⟨(wdr).heap.size, 5, none⟩ (.slice K2.A6 K2.rss.length K2.c6)).setCell ⟨(wdr).heap.size, 6, none⟩ (.bool K2.dirty)) (wdr).heap.size K2) := Lib.hid ⟨isR, HOn.out.fr fR fun k hk e => HOn.out.ne_is isr (by decide) (by decide) (by decide) (by decide) (e ▸ hk), (((((((HG.out.setCell (p := ⟨(wdr).heap.size, 0, none⟩) (.inr HNB.out) (.slice K2.A1 K2.own.length K2.c1)).setCell (p := ⟨(wdr).heap.size, 1, none⟩) (.inr HNB.out) (.slice K2.A2 K2.rts.length K2.c2)).setCell (p := ⟨(wdr).heap.size, 2, none⟩) (.inr HNB.out) (.slice K2.A3 K2.pts.length K2.c3)).setCell (p := ⟨(wdr).heap.size, 3, none⟩) (.inr HNB.out) (.slice K2.A4 K2.crs.length K2.c4)).setCell (p := ⟨(wdr).heap.size, 4, none⟩) (.inr HNB.out) (.slice K2.A5 K2.lns.length K2.c5)).setCell (p := ⟨(wdr).heap.size, 5, none⟩) (.inr HNB.out) (.slice K2.A6 K2.rss.length K2.c6)).setCell (p := ⟨(wdr).heap.size, 6, none⟩) (.inr HNB.out) (.bool K2.dirty)), HNB.out⟩
      clear isR fR isr
      (with_reducible refine hKK.out _ _ (HS.out _ HBN.out.f) (fun hHeld => ?_))
      clear hKK KK
      clear m0 m1 m2 m3 m4 m5 m6 z0 z1 z2 z3 z4 z5 z6
      refine wpAnyH_take (i := 9) (oi := { dst := some 3, op := _, type := _, pos := _, after := _, guard := _ }) (v := ?_) rfl (by kernel_rfl) (by kernel_rfl) (by kernel_rfl) (fun _ _ _ h => h) (Or.inl ⟨by rfl, ?_⟩) (by assumption) ?_
      rotate_left
      · intro Wx hSw
        try dsimp only at hSw
        go_simp
        try with_reducible rfl
      try simp only [Act.put, List.setIfInBounds_toArray, List.set_cons_zero, List.set_cons_succ]
      refine wpAnyH_done (by kernel_rfl) ?_ _
      go_wp2_with fail
      go_meet
      case rel => exact ⟨_, K2, rfl, rfl, HK2.out, HBN.out⟩
  case rest =>
    obtain ⟨nb, K, rfl, rfl, hk, hb⟩ := hcut
    have HK := Lib.hid hk
    have HB := Lib.hid hb
    have HF3 := Lib.hid (fr_nil HF.out hb.f)
    have HIC3 := Lib.hid (HIC.out.fr hb.f id)
    have HC3 := Lib.hid (HC.out.fr hb.f)
    clear hk hb
    go_upto_region 3 with fail
    generalize hw3 : wc = w3 at *
    clear hw3
    go_cut [4, 5] from 14 (fun v4 v5 wx => ∃ (n2 : Nat) (K2 : Km), v4 = .pointer (some ⟨n2, 0, none⟩) ∧ v5 = .int .i64 0 ∧ K2.kp = exB ∧ Bx w3 wx n2 K2)
    case first =>
      have KT : ∀ V : Vm, V.vp = seenV 0 9 → ∀ W, Fr (fun _ => False) w3 W → V.Ok W → Calls Try.prog 7 #[.agg #[.slice C.A1 C.l.length C.c1, .slice C.A2 C.js.length C.c2, .slice C.A3 C.sg.length C.c3, .slice C.A4 C.cr.length C.c4, .slice C.A5 C.rs.length C.c5, .int .i64 C.tm.age, .int .i64 C.tm.brake, .int .i64 C.tm.hold, .int .i64 C.tm.budget], .agg #[.slice K.A1 K.own.length K.c1, .slice K.A2 K.rts.length K.c2, .slice K.A3 K.pts.length K.c3, .slice K.A4 K.crs.length K.c4, .slice K.A5 K.lns.length K.c5, .slice K.A6 K.rss.length K.c6, .bool K.dirty], V.val, .int .i64 9] W (Out W (exB, 0)) := fun V hv W f h => by
        have := bstep_any (HC3.out.fr f) (endK_ok (HB.out.own.fr f fun _ _ => id) HK.out ⟨by decide, by decide, by decide, by decide⟩) h 9
        rw [hv, HCF.out, HK.out, ex_step] at this
        exact this
      have HS : Hid (∀ W, Fr (fun _ => False) w3 W → (fun Wx => Wx.cell? ⟨cb, 0, none⟩ = some (.slice C.A1 C.l.length C.c1) ∧ Wx.cell? ⟨cb, 1, none⟩ = some (.slice C.A2 C.js.length C.c2) ∧ Wx.cell? ⟨cb, 2, none⟩ = some (.slice C.A3 C.sg.length C.c3) ∧ Wx.cell? ⟨cb, 3, none⟩ = some (.slice C.A4 C.cr.length C.c4) ∧ Wx.cell? ⟨cb, 4, none⟩ = some (.slice C.A5 C.rs.length C.c5) ∧ Wx.cell? ⟨cb, 5, none⟩ = some (.int .i64 C.tm.age) ∧ Wx.cell? ⟨cb, 6, none⟩ = some (.int .i64 C.tm.brake) ∧ Wx.cell? ⟨cb, 7, none⟩ = some (.int .i64 C.tm.hold) ∧ Wx.cell? ⟨cb, 8, none⟩ = some (.int .i64 C.tm.budget) ∧ Wx.cell? ⟨nb, 0, none⟩ = some (.slice K.A1 K.own.length K.c1) ∧ Wx.cell? ⟨nb, 1, none⟩ = some (.slice K.A2 K.rts.length K.c2) ∧ Wx.cell? ⟨nb, 2, none⟩ = some (.slice K.A3 K.pts.length K.c3) ∧ Wx.cell? ⟨nb, 3, none⟩ = some (.slice K.A4 K.crs.length K.c4) ∧ Wx.cell? ⟨nb, 4, none⟩ = some (.slice K.A5 K.lns.length K.c5) ∧ Wx.cell? ⟨nb, 5, none⟩ = some (.slice K.A6 K.rss.length K.c6) ∧ Wx.cell? ⟨nb, 6, none⟩ = some (.bool K.dirty)) W) := Lib.hid fun W fW => by
        obtain ⟨a0, a1, a2, a3, a4, a5, a6, a7, a8⟩ := nine9 (HIC3.out.fr fW id)
        obtain ⟨b0, b1, b2, b3, b4, b5, b6⟩ := Bk.core7 (K := K) (HB.out.is.fr fW id)
        exact ⟨a0, a1, a2, a3, a4, a5, a6, a7, a8, b0, b1, b2, b3, b4, b5, b6⟩
      have HG := Lib.hid (Fr.refl (fun _ => False) w3).drew
      refine wp_region_held_drew (S := (fun Wx => Wx.cell? ⟨cb, 0, none⟩ = some (.slice C.A1 C.l.length C.c1) ∧ Wx.cell? ⟨cb, 1, none⟩ = some (.slice C.A2 C.js.length C.c2) ∧ Wx.cell? ⟨cb, 2, none⟩ = some (.slice C.A3 C.sg.length C.c3) ∧ Wx.cell? ⟨cb, 3, none⟩ = some (.slice C.A4 C.cr.length C.c4) ∧ Wx.cell? ⟨cb, 4, none⟩ = some (.slice C.A5 C.rs.length C.c5) ∧ Wx.cell? ⟨cb, 5, none⟩ = some (.int .i64 C.tm.age) ∧ Wx.cell? ⟨cb, 6, none⟩ = some (.int .i64 C.tm.brake) ∧ Wx.cell? ⟨cb, 7, none⟩ = some (.int .i64 C.tm.hold) ∧ Wx.cell? ⟨cb, 8, none⟩ = some (.int .i64 C.tm.budget) ∧ Wx.cell? ⟨nb, 0, none⟩ = some (.slice K.A1 K.own.length K.c1) ∧ Wx.cell? ⟨nb, 1, none⟩ = some (.slice K.A2 K.rts.length K.c2) ∧ Wx.cell? ⟨nb, 2, none⟩ = some (.slice K.A3 K.pts.length K.c3) ∧ Wx.cell? ⟨nb, 3, none⟩ = some (.slice K.A4 K.crs.length K.c4) ∧ Wx.cell? ⟨nb, 4, none⟩ = some (.slice K.A5 K.lns.length K.c5) ∧ Wx.cell? ⟨nb, 5, none⟩ = some (.slice K.A6 K.rss.length K.c6) ∧ Wx.cell? ⟨nb, 6, none⟩ = some (.bool K.dirty))) (by kernel_rfl) (HS.out _ (Fr.refl _ w3).drew) (fun hHeld => ?_)
      generalize w3.drew = wdr at *
      refine wpAnyH_take (i := 0) (oi := { dst := some 15, op := _, type := _, pos := _, after := _, guard := _ }) (v := ?_) rfl (by kernel_rfl) (by kernel_rfl) (by kernel_rfl) (fun _ _ _ h => h) (Or.inl ⟨by rfl, ?_⟩) (by assumption) ?_
      rotate_left
      · intro Wx hSw
        try dsimp only at hSw
        go_simp
        try with_reducible rfl
      try simp only [Act.put, List.setIfInBounds_toArray, List.set_cons_zero, List.set_cons_succ]
      refine wpAnyH_take (i := 1) (oi := { dst := some 16, op := _, type := _, pos := _, after := _, guard := _ }) (v := ?_) rfl (by kernel_rfl) (by kernel_rfl) (by kernel_rfl) (fun _ _ _ h => h) (Or.inl ⟨by rfl, ?_⟩) (by assumption) ?_
      rotate_left
      · intro Wx hSw
        try dsimp only at hSw
        go_simp
        try with_reducible rfl
      try simp only [Act.put, List.setIfInBounds_toArray, List.set_cons_zero, List.set_cons_succ]
      refine wpAnyH_ready (rs := [2, 7]) (by kernel_rfl) (by simp) (AllReadyH.cons rfl (fun KK hKK => ?_) (AllReadyH.cons rfl (fun KK hKK => ?_) (AllReadyH.nil)))
      · go_simp
        have HGP := HG
        refine (seen15_any 0 9 _).mono ?_
        rintro _ v0 ⟨V1, rfl, hv1, hvo, fa⟩
        have HG := Lib.hid (fr_nil HG.out fa)
        have HF0 := Lib.hid (Fr.refl (fun _ => False) v0)
        have HVO := Lib.hid hvo
        have KT := KT V1 hv1
        clear hv1 hvo
        unfold Vm.val Vm.arr at KT ⊢
        clear fa
        (with_reducible refine hKK.out _ _ (HS.out _ HG.out) (fun hHeld => ?_))
        clear hKK KK
        refine wpAnyH_ready (rs := [3, 7]) (by kernel_rfl) (by simp) (AllReadyH.cons rfl (fun KK hKK => ?_) (AllReadyH.cons rfl (fun KK hKK => ?_) (AllReadyH.nil)))
        · go_simp
          have HGP := HG
          refine (KT _ HG.out (HVO.out.fr HF0.out)).mono ?_
          rintro _ v1 ⟨K2, rfl, hk2, ho2, fa⟩
          have HG := Lib.hid (fr_nil HG.out fa)
          have HF0 := Lib.hid (fr_nil HF0.out fa)
          have HF1 := Lib.hid (Fr.refl (fun _ => False) v1)
          have HK2 := Lib.hid hk2
          have HO := Lib.hid (ho2.base HGP.out.size)
          clear hk2 ho2 KT
          unfold Km.val Km.arr
          clear fa
          (with_reducible refine hKK.out _ _ (HS.out _ HG.out) (fun hHeld => ?_))
          clear hKK KK
          refine wpAnyH_take (i := 4) (oi := { dst := some 14, op := _, type := _, pos := _, after := _, guard := _ }) (v := ?_) rfl (by kernel_rfl) (by kernel_rfl) (by kernel_rfl) (fun _ _ _ h => h) (Or.inl ⟨by rfl, ?_⟩) (by assumption) ?_
          rotate_left
          · intro Wx hSw
            try dsimp only at hSw
            go_simp
            try with_reducible rfl
          try simp only [Act.put, List.setIfInBounds_toArray, List.set_cons_zero, List.set_cons_succ]
          refine wpAnyH_take (i := 5) (oi := { dst := some 19, op := _, type := _, pos := _, after := _, guard := _ }) (v := ?_) rfl (by kernel_rfl) (by kernel_rfl) (by kernel_rfl) (fun _ _ _ h => h) (Or.inl ⟨by rfl, ?_⟩) (by assumption) ?_
          rotate_left
          · intro Wx hSw
            try dsimp only at hSw
            go_simp
            try with_reducible rfl
          try simp only [Act.put, List.setIfInBounds_toArray, List.set_cons_zero, List.set_cons_succ]
          refine wpAnyH_take (i := 6) (oi := { dst := some 20, op := _, type := _, pos := _, after := _, guard := _ }) (v := ?_) rfl (by kernel_rfl) (by kernel_rfl) (by kernel_rfl) (fun _ _ _ h => h) (Or.inl ⟨by rfl, ?_⟩) (by assumption) ?_
          rotate_left
          · intro Wx hSw
            try dsimp only at hSw
            go_simp
            try with_reducible rfl
          try simp only [Act.put, List.setIfInBounds_toArray, List.set_cons_zero, List.set_cons_succ]
          refine wpAnyH_ready (rs := [7]) (by kernel_rfl) (by simp) (AllReadyH.cons rfl (fun KK hKK => ?_) (AllReadyH.nil))
          go_simp
          have HI := Lib.hid (Is.new (v1) 35 #[.slice none 0 0, .slice none 0 0, .slice none 0 0, .slice none 0 0, .slice none 0 0, .slice none 0 0, .bool false])
          have HNB : Hid (w3.heap.size ≤ (v1).heap.size) := Lib.hid HG.out.size
          have HG9 := HG
          have HG := Lib.hid (HG.out.alloc (.cells #[.slice none 0 0, .slice none 0 0, .slice none 0 0, .slice none 0 0, .slice none 0 0, .slice none 0 0, .bool false] 35))
          have HF09 := HF0
          have HF0 := Lib.hid (HF0.out.alloc (.cells #[.slice none 0 0, .slice none 0 0, .slice none 0 0, .slice none 0 0, .slice none 0 0, .slice none 0 0, .bool false] 35))
          have HF19 := HF1
          have HF1 := Lib.hid (HF1.out.alloc (.cells #[.slice none 0 0, .slice none 0 0, .slice none 0 0, .slice none 0 0, .slice none 0 0, .slice none 0 0, .bool false] 35))
          (with_reducible refine hKK.out _ _ (HS.out _ HG.out) (fun hHeld => ?_))
          clear hKK KK
          refine wpAnyH_ready (rs := [8]) (by kernel_rfl) (by simp) (AllReadyH.cons rfl (fun KK hKK => ?_) (AllReadyH.nil))
          go_simp
          have isr := HI.out
          obtain ⟨m0, m1, m2, m3, m4, m5, m6⟩ := seven isr
          have HBN : Hid (Bx w3 ((v1).alloc (.cells #[.slice K2.A1 K2.own.length K2.c1, .slice K2.A2 K2.rts.length K2.c2, .slice K2.A3 K2.pts.length K2.c3, .slice K2.A4 K2.crs.length K2.c4, .slice K2.A5 K2.lns.length K2.c5, .slice K2.A6 K2.rss.length K2.c6, .bool K2.dirty] 35)) (v1).heap.size K2) := Lib.hid ⟨Is.new _ _ _, (HO.out.fr HF19.out fun _ _ => id).fr ((Fr.refl _ _).alloc _) fun _ _ => id, HG9.out.alloc _, HNB.out⟩
          clear isr
          (with_reducible refine hKK.out _ _ (HS.out _ HBN.out.f) (fun hHeld => ?_))
          clear hKK KK
          clear m0 m1 m2 m3 m4 m5 m6
          refine wpAnyH_take (i := 9) (oi := { dst := some 5, op := _, type := _, pos := _, after := _, guard := _ }) (v := ?_) rfl (by kernel_rfl) (by kernel_rfl) (by kernel_rfl) (fun _ _ _ h => h) (Or.inl ⟨by rfl, ?_⟩) (by assumption) ?_
          rotate_left
          · intro Wx hSw
            try dsimp only at hSw
            go_simp
            try with_reducible rfl
          try simp only [Act.put, List.setIfInBounds_toArray, List.set_cons_zero, List.set_cons_succ]
          refine wpAnyH_done (by kernel_rfl) ?_ _
          go_wp2_with fail
          go_meet
          case rel => exact ⟨_, K2, rfl, rfl, HK2.out, HBN.out⟩
        · go_simp
          have HI := Lib.hid (Is.new (v0) 35 #[.slice none 0 0, .slice none 0 0, .slice none 0 0, .slice none 0 0, .slice none 0 0, .slice none 0 0, .bool false])
          have HNB : Hid (w3.heap.size ≤ (v0).heap.size) := Lib.hid HG.out.size
          have HG9 := HG
          have HG := Lib.hid (HG.out.alloc (.cells #[.slice none 0 0, .slice none 0 0, .slice none 0 0, .slice none 0 0, .slice none 0 0, .slice none 0 0, .bool false] 35))
          have HF09 := HF0
          have HF0 := Lib.hid (HF0.out.alloc (.cells #[.slice none 0 0, .slice none 0 0, .slice none 0 0, .slice none 0 0, .slice none 0 0, .slice none 0 0, .bool false] 35))
          (with_reducible refine hKK.out _ _ (HS.out _ HG.out) (fun hHeld => ?_))
          clear hKK KK
          refine wpAnyH_ready (rs := [3]) (by kernel_rfl) (by simp) (AllReadyH.cons rfl (fun KK hKK => ?_) (AllReadyH.nil))
          go_simp
          have HGP := HG
          refine (KT _ HG.out (HVO.out.fr HF0.out)).mono ?_
          rintro _ v1 ⟨K2, rfl, hk2, ho2, fa⟩
          have HG := Lib.hid (fr_nil HG.out fa)
          have HF0 := Lib.hid (fr_nil HF0.out fa)
          have HF1 := Lib.hid (Fr.refl (fun _ => False) v1)
          have HI := Lib.hid (HI.out.fr fa id)
          have HK2 := Lib.hid hk2
          have HO := Lib.hid (ho2.base HGP.out.size)
          clear hk2 ho2 KT
          unfold Km.val Km.arr
          clear fa
          (with_reducible refine hKK.out _ _ (HS.out _ HG.out) (fun hHeld => ?_))
          clear hKK KK
          refine wpAnyH_take (i := 4) (oi := { dst := some 14, op := _, type := _, pos := _, after := _, guard := _ }) (v := ?_) rfl (by kernel_rfl) (by kernel_rfl) (by kernel_rfl) (fun _ _ _ h => h) (Or.inl ⟨by rfl, ?_⟩) (by assumption) ?_
          rotate_left
          · intro Wx hSw
            try dsimp only at hSw
            go_simp
            try with_reducible rfl
          try simp only [Act.put, List.setIfInBounds_toArray, List.set_cons_zero, List.set_cons_succ]
          refine wpAnyH_take (i := 5) (oi := { dst := some 19, op := _, type := _, pos := _, after := _, guard := _ }) (v := ?_) rfl (by kernel_rfl) (by kernel_rfl) (by kernel_rfl) (fun _ _ _ h => h) (Or.inl ⟨by rfl, ?_⟩) (by assumption) ?_
          rotate_left
          · intro Wx hSw
            try dsimp only at hSw
            go_simp
            try with_reducible rfl
          try simp only [Act.put, List.setIfInBounds_toArray, List.set_cons_zero, List.set_cons_succ]
          refine wpAnyH_take (i := 6) (oi := { dst := some 20, op := _, type := _, pos := _, after := _, guard := _ }) (v := ?_) rfl (by kernel_rfl) (by kernel_rfl) (by kernel_rfl) (fun _ _ _ h => h) (Or.inl ⟨by rfl, ?_⟩) (by assumption) ?_
          rotate_left
          · intro Wx hSw
            try dsimp only at hSw
            go_simp
            try with_reducible rfl
          try simp only [Act.put, List.setIfInBounds_toArray, List.set_cons_zero, List.set_cons_succ]
          refine wpAnyH_ready (rs := [8]) (by kernel_rfl) (by simp) (AllReadyH.cons rfl (fun KK hKK => ?_) (AllReadyH.nil))
          have isr := HI.out
          obtain ⟨m0, m1, m2, m3, m4, m5, m6⟩ := seven isr
          have z0 := isr.frozen 0
          have z1 := isr.frozen 1
          have z2 := isr.frozen 2
          have z3 := isr.frozen 3
          have z4 := isr.frozen 4
          have z5 := isr.frozen 5
          have z6 := isr.frozen 6
          go_simp
          have HOn := Lib.hid (HO.out.fr HF1.out fun _ _ => id)
          have isR := (((((((isr.set 0 (.slice K2.A1 K2.own.length K2.c1)).set 1 (.slice K2.A2 K2.rts.length K2.c2)).set 2 (.slice K2.A3 K2.pts.length K2.c3)).set 3 (.slice K2.A4 K2.crs.length K2.c4)).set 4 (.slice K2.A5 K2.lns.length K2.c5)).set 5 (.slice K2.A6 K2.rss.length K2.c6)).set 6 (.bool K2.dirty))
          have fR := ((((((((Fr.refl (fun q => q = (v0).heap.size) (v1)).setCell (p := ⟨(v0).heap.size, 0, none⟩) (.inl rfl) (.slice K2.A1 K2.own.length K2.c1)).setCell (p := ⟨(v0).heap.size, 1, none⟩) (.inl rfl) (.slice K2.A2 K2.rts.length K2.c2)).setCell (p := ⟨(v0).heap.size, 2, none⟩) (.inl rfl) (.slice K2.A3 K2.pts.length K2.c3)).setCell (p := ⟨(v0).heap.size, 3, none⟩) (.inl rfl) (.slice K2.A4 K2.crs.length K2.c4)).setCell (p := ⟨(v0).heap.size, 4, none⟩) (.inl rfl) (.slice K2.A5 K2.lns.length K2.c5)).setCell (p := ⟨(v0).heap.size, 5, none⟩) (.inl rfl) (.slice K2.A6 K2.rss.length K2.c6)).setCell (p := ⟨(v0).heap.size, 6, none⟩) (.inl rfl) (.bool K2.dirty))
          simp only [List.setIfInBounds_toArray, List.set_cons_zero, List.set_cons_succ] at isR
          have HBN : Hid (Bx w3 ((((((((v1).setCell ⟨(v0).heap.size, 0, none⟩ (.slice K2.A1 K2.own.length K2.c1)).setCell ⟨(v0).heap.size, 1, none⟩ (.slice K2.A2 K2.rts.length K2.c2)).setCell ⟨(v0).heap.size, 2, none⟩ (.slice K2.A3 K2.pts.length K2.c3)).setCell ⟨(v0).heap.size, 3, none⟩ (.slice K2.A4 K2.crs.length K2.c4)).setCell ⟨(v0).heap.size, 4, none⟩ (.slice K2.A5 K2.lns.length K2.c5)).setCell ⟨(v0).heap.size, 5, none⟩ (.slice K2.A6 K2.rss.length K2.c6)).setCell ⟨(v0).heap.size, 6, none⟩ (.bool K2.dirty)) (v0).heap.size K2) := Lib.hid ⟨isR, HOn.out.fr fR fun k hk e => HOn.out.ne_is isr (by decide) (by decide) (by decide) (by decide) (e ▸ hk), (((((((HG.out.setCell (p := ⟨(v0).heap.size, 0, none⟩) (.inr HNB.out) (.slice K2.A1 K2.own.length K2.c1)).setCell (p := ⟨(v0).heap.size, 1, none⟩) (.inr HNB.out) (.slice K2.A2 K2.rts.length K2.c2)).setCell (p := ⟨(v0).heap.size, 2, none⟩) (.inr HNB.out) (.slice K2.A3 K2.pts.length K2.c3)).setCell (p := ⟨(v0).heap.size, 3, none⟩) (.inr HNB.out) (.slice K2.A4 K2.crs.length K2.c4)).setCell (p := ⟨(v0).heap.size, 4, none⟩) (.inr HNB.out) (.slice K2.A5 K2.lns.length K2.c5)).setCell (p := ⟨(v0).heap.size, 5, none⟩) (.inr HNB.out) (.slice K2.A6 K2.rss.length K2.c6)).setCell (p := ⟨(v0).heap.size, 6, none⟩) (.inr HNB.out) (.bool K2.dirty)), HNB.out⟩
          clear isR fR isr
          (with_reducible refine hKK.out _ _ (HS.out _ HBN.out.f) (fun hHeld => ?_))
          clear hKK KK
          clear m0 m1 m2 m3 m4 m5 m6 z0 z1 z2 z3 z4 z5 z6
          refine wpAnyH_take (i := 9) (oi := { dst := some 5, op := _, type := _, pos := _, after := _, guard := _ }) (v := ?_) rfl (by kernel_rfl) (by kernel_rfl) (by kernel_rfl) (fun _ _ _ h => h) (Or.inl ⟨by rfl, ?_⟩) (by assumption) ?_
          rotate_left
          · intro Wx hSw
            try dsimp only at hSw
            go_simp
            try with_reducible rfl
          try simp only [Act.put, List.setIfInBounds_toArray, List.set_cons_zero, List.set_cons_succ]
          refine wpAnyH_done (by kernel_rfl) ?_ _
          go_wp2_with fail
          go_meet
          case rel => exact ⟨_, K2, rfl, rfl, HK2.out, HBN.out⟩
      · go_simp
        have HI := Lib.hid (Is.new (wdr) 35 #[.slice none 0 0, .slice none 0 0, .slice none 0 0, .slice none 0 0, .slice none 0 0, .slice none 0 0, .bool false])
        have HNB : Hid (w3.heap.size ≤ (wdr).heap.size) := Lib.hid HG.out.size
        have HG9 := HG
        have HG := Lib.hid (HG.out.alloc (.cells #[.slice none 0 0, .slice none 0 0, .slice none 0 0, .slice none 0 0, .slice none 0 0, .slice none 0 0, .bool false] 35))
        (with_reducible refine hKK.out _ _ (HS.out _ HG.out) (fun hHeld => ?_))
        clear hKK KK
        refine wpAnyH_ready (rs := [2]) (by kernel_rfl) (by simp) (AllReadyH.cons rfl (fun KK hKK => ?_) (AllReadyH.nil))
        go_simp
        have HGP := HG
        refine (seen15_any 0 9 _).mono ?_
        rintro _ v0 ⟨V1, rfl, hv1, hvo, fa⟩
        have HG := Lib.hid (fr_nil HG.out fa)
        have HF0 := Lib.hid (Fr.refl (fun _ => False) v0)
        have HI := Lib.hid (HI.out.fr fa id)
        have HVO := Lib.hid hvo
        have KT := KT V1 hv1
        clear hv1 hvo
        unfold Vm.val Vm.arr at KT ⊢
        clear fa
        (with_reducible refine hKK.out _ _ (HS.out _ HG.out) (fun hHeld => ?_))
        clear hKK KK
        refine wpAnyH_ready (rs := [3]) (by kernel_rfl) (by simp) (AllReadyH.cons rfl (fun KK hKK => ?_) (AllReadyH.nil))
        go_simp
        have HGP := HG
        refine (KT _ HG.out (HVO.out.fr HF0.out)).mono ?_
        rintro _ v1 ⟨K2, rfl, hk2, ho2, fa⟩
        have HG := Lib.hid (fr_nil HG.out fa)
        have HF0 := Lib.hid (fr_nil HF0.out fa)
        have HF1 := Lib.hid (Fr.refl (fun _ => False) v1)
        have HI := Lib.hid (HI.out.fr fa id)
        have HK2 := Lib.hid hk2
        have HO := Lib.hid (ho2.base HGP.out.size)
        clear hk2 ho2 KT
        unfold Km.val Km.arr
        clear fa
        (with_reducible refine hKK.out _ _ (HS.out _ HG.out) (fun hHeld => ?_))
        clear hKK KK
        refine wpAnyH_take (i := 4) (oi := { dst := some 14, op := _, type := _, pos := _, after := _, guard := _ }) (v := ?_) rfl (by kernel_rfl) (by kernel_rfl) (by kernel_rfl) (fun _ _ _ h => h) (Or.inl ⟨by rfl, ?_⟩) (by assumption) ?_
        rotate_left
        · intro Wx hSw
          try dsimp only at hSw
          go_simp
          try with_reducible rfl
        try simp only [Act.put, List.setIfInBounds_toArray, List.set_cons_zero, List.set_cons_succ]
        refine wpAnyH_take (i := 5) (oi := { dst := some 19, op := _, type := _, pos := _, after := _, guard := _ }) (v := ?_) rfl (by kernel_rfl) (by kernel_rfl) (by kernel_rfl) (fun _ _ _ h => h) (Or.inl ⟨by rfl, ?_⟩) (by assumption) ?_
        rotate_left
        · intro Wx hSw
          try dsimp only at hSw
          go_simp
          try with_reducible rfl
        try simp only [Act.put, List.setIfInBounds_toArray, List.set_cons_zero, List.set_cons_succ]
        refine wpAnyH_take (i := 6) (oi := { dst := some 20, op := _, type := _, pos := _, after := _, guard := _ }) (v := ?_) rfl (by kernel_rfl) (by kernel_rfl) (by kernel_rfl) (fun _ _ _ h => h) (Or.inl ⟨by rfl, ?_⟩) (by assumption) ?_
        rotate_left
        · intro Wx hSw
          try dsimp only at hSw
          go_simp
          try with_reducible rfl
        try simp only [Act.put, List.setIfInBounds_toArray, List.set_cons_zero, List.set_cons_succ]
        refine wpAnyH_ready (rs := [8]) (by kernel_rfl) (by simp) (AllReadyH.cons rfl (fun KK hKK => ?_) (AllReadyH.nil))
        have isr := HI.out
        obtain ⟨m0, m1, m2, m3, m4, m5, m6⟩ := seven isr
        have z0 := isr.frozen 0
        have z1 := isr.frozen 1
        have z2 := isr.frozen 2
        have z3 := isr.frozen 3
        have z4 := isr.frozen 4
        have z5 := isr.frozen 5
        have z6 := isr.frozen 6
        go_simp
        have HOn := Lib.hid (HO.out.fr HF1.out fun _ _ => id)
        have isR := (((((((isr.set 0 (.slice K2.A1 K2.own.length K2.c1)).set 1 (.slice K2.A2 K2.rts.length K2.c2)).set 2 (.slice K2.A3 K2.pts.length K2.c3)).set 3 (.slice K2.A4 K2.crs.length K2.c4)).set 4 (.slice K2.A5 K2.lns.length K2.c5)).set 5 (.slice K2.A6 K2.rss.length K2.c6)).set 6 (.bool K2.dirty))
        have fR := ((((((((Fr.refl (fun q => q = (wdr).heap.size) (v1)).setCell (p := ⟨(wdr).heap.size, 0, none⟩) (.inl rfl) (.slice K2.A1 K2.own.length K2.c1)).setCell (p := ⟨(wdr).heap.size, 1, none⟩) (.inl rfl) (.slice K2.A2 K2.rts.length K2.c2)).setCell (p := ⟨(wdr).heap.size, 2, none⟩) (.inl rfl) (.slice K2.A3 K2.pts.length K2.c3)).setCell (p := ⟨(wdr).heap.size, 3, none⟩) (.inl rfl) (.slice K2.A4 K2.crs.length K2.c4)).setCell (p := ⟨(wdr).heap.size, 4, none⟩) (.inl rfl) (.slice K2.A5 K2.lns.length K2.c5)).setCell (p := ⟨(wdr).heap.size, 5, none⟩) (.inl rfl) (.slice K2.A6 K2.rss.length K2.c6)).setCell (p := ⟨(wdr).heap.size, 6, none⟩) (.inl rfl) (.bool K2.dirty))
        simp only [List.setIfInBounds_toArray, List.set_cons_zero, List.set_cons_succ] at isR
        have HBN : Hid (Bx w3 ((((((((v1).setCell ⟨(wdr).heap.size, 0, none⟩ (.slice K2.A1 K2.own.length K2.c1)).setCell ⟨(wdr).heap.size, 1, none⟩ (.slice K2.A2 K2.rts.length K2.c2)).setCell ⟨(wdr).heap.size, 2, none⟩ (.slice K2.A3 K2.pts.length K2.c3)).setCell ⟨(wdr).heap.size, 3, none⟩ (.slice K2.A4 K2.crs.length K2.c4)).setCell ⟨(wdr).heap.size, 4, none⟩ (.slice K2.A5 K2.lns.length K2.c5)).setCell ⟨(wdr).heap.size, 5, none⟩ (.slice K2.A6 K2.rss.length K2.c6)).setCell ⟨(wdr).heap.size, 6, none⟩ (.bool K2.dirty)) (wdr).heap.size K2) := Lib.hid ⟨isR, HOn.out.fr fR fun k hk e => HOn.out.ne_is isr (by decide) (by decide) (by decide) (by decide) (e ▸ hk), (((((((HG.out.setCell (p := ⟨(wdr).heap.size, 0, none⟩) (.inr HNB.out) (.slice K2.A1 K2.own.length K2.c1)).setCell (p := ⟨(wdr).heap.size, 1, none⟩) (.inr HNB.out) (.slice K2.A2 K2.rts.length K2.c2)).setCell (p := ⟨(wdr).heap.size, 2, none⟩) (.inr HNB.out) (.slice K2.A3 K2.pts.length K2.c3)).setCell (p := ⟨(wdr).heap.size, 3, none⟩) (.inr HNB.out) (.slice K2.A4 K2.crs.length K2.c4)).setCell (p := ⟨(wdr).heap.size, 4, none⟩) (.inr HNB.out) (.slice K2.A5 K2.lns.length K2.c5)).setCell (p := ⟨(wdr).heap.size, 5, none⟩) (.inr HNB.out) (.slice K2.A6 K2.rss.length K2.c6)).setCell (p := ⟨(wdr).heap.size, 6, none⟩) (.inr HNB.out) (.bool K2.dirty)), HNB.out⟩
        clear isR fR isr
        (with_reducible refine hKK.out _ _ (HS.out _ HBN.out.f) (fun hHeld => ?_))
        clear hKK KK
        clear m0 m1 m2 m3 m4 m5 m6 z0 z1 z2 z3 z4 z5 z6
        refine wpAnyH_take (i := 9) (oi := { dst := some 5, op := _, type := _, pos := _, after := _, guard := _ }) (v := ?_) rfl (by kernel_rfl) (by kernel_rfl) (by kernel_rfl) (fun _ _ _ h => h) (Or.inl ⟨by rfl, ?_⟩) (by assumption) ?_
        rotate_left
        · intro Wx hSw
          try dsimp only at hSw
          go_simp
          try with_reducible rfl
        try simp only [Act.put, List.setIfInBounds_toArray, List.set_cons_zero, List.set_cons_succ]
        refine wpAnyH_done (by kernel_rfl) ?_ _
        go_wp2_with fail
        go_meet
        case rel => exact ⟨_, K2, rfl, rfl, HK2.out, HBN.out⟩
    case rest =>
      obtain ⟨n2, K2, rfl, rfl, hk, hb⟩ := hcut
      have HF4 := Lib.hid (fr_nil HF3.out hb.f)
      obtain ⟨c0, c1, c2, c3, c4, c5, c6⟩ := Bk.core7 (K := K2) hb.is
      have e1 : K2.own = [-2, 0] := congrArg Kp.own hk
      have e5 : K2.lns = [default, { (default : Ln) with gr := 1, pa := 1 }, default, default] := congrArg Kp.lns hk
      have e7 : K2.dirty = true := congrArg Kp.dirty hk
      obtain ⟨g1, o1, hA1, d0⟩ := rd_int (wide_rd hb.own.own) (j := 0) (by rw [e1]; decide)
      obtain ⟨g5, o5, hA5, -, -, d2, -⟩ := rd_ln (wide_rd hb.own.lns) (j := 1) (by rw [e5]; decide)
      simp only [e1, List.getElem_cons_zero, Nat.add_zero] at d0
      simp only [e5, List.getElem_cons_zero, List.getElem_cons_succ, Nat.one_mul] at d2
      have KT := tell_any K2 wc (wide_rd hb.own.lns) (by rw [e5]; decide) 1
      rw [show tellM K2.kp 1 = ⟨0, 0, 0⟩ from by rw [hk]; rfl] at KT
      unfold Bl.val Km.val Km.arr at KT
      rw [hA1, show K2.own.length = 2 by rw [e1]; rfl] at c0 KT
      rw [hA5, show K2.lns.length = 4 by rw [e5]; rfl] at c4 KT
      rw [e7] at c6 KT
      clear hk hb e1 e5 e7 hA1 hA5
      go_wp2_with fail
      refine KT.mono ?_
      rintro _ w5 ⟨rfl, f5⟩
      have HF5 := Lib.hid (fr_nil HF4.out f5)
      have c6 := (f5.cell (World.block_lt_of_cell? _ _ c6) id).trans c6
      clear f5 KT c0 c1 c2 c3 c4 c5 d0 d2
      go_wp2_with fail
      go_ret
      exact ⟨rfl, HF5.out⟩
end Go.Proofs.Ytnnacdkijeoeoaa.Bk
/- The document's Same at states of an end whose line sections' owners differ. -/
namespace Go.Proofs.Ytnnacdkijeoeoaa.Bk
open Go.RowKit Lk Nk

set_option maxRecDepth 100000 in
theorem sint_not {A B : Option Addr} {c d : Nat} {x y x2 y2 : Int} {w : World} (hxy : x ≠ y) (hA : Rd w A ([x, x2].map (Value.int .i64))) (hB : Rd w B ([y, y2].map (Value.int .i64))) :
    Calls Try.prog 22 #[.slice A 2 c, .slice B 2 d] w fun e w' => e = .returned (.bool false) ∧ Fr (fun _ => False) w w' := by
  obtain ⟨g, o, hA1, q0⟩ := rd_int (l := [x, x2]) hA (j := 0) (by simp)
  obtain ⟨g2, o2, hB1, q1⟩ := rd_int (l := [y, y2]) hB (j := 0) (by simp)
  simp only [List.getElem_cons_zero, Nat.add_zero] at q0 q1
  have e1 : (x == y) = false := by simpa using hxy
  have e2 : (x != y) = true := by simpa using hxy
  have HF := Lib.hid (Fr.refl (fun _ => False) w)
  subst hA1 hB1
  clear hA hB hxy
  go_enter Try.func22, Try.ntmps22
  go_wp2_with fail
  go_loopg [5, 13] 1 (fun gi _ v13 wr => v13 = .int .i64 0 ∧ gi = 1 ∧ w = wr)
  case atStart => exact ⟨rfl, rfl, rfl⟩
  case round =>
    obtain ⟨rfl, rfl, rfl⟩ := hrel
    go_upto_region 6 with fail
    go_quiet (fail)
    go_wp2_with fail
    go_ret
    exact ⟨rfl, (Fr.refl _ _).drewN nq⟩
set_option maxRecDepth 100000 in
set_option maxHeartbeats 4000000 in
theorem same_not (Ka Kb : Km) (w : World) {x y x2 y2 : Int} (hxy : x ≠ y) (ha : Ka.own = [x, x2]) (hb : Kb.own = [y, y2]) (hA : Rd w Ka.A1 (Ka.own.map (Value.int .i64))) (hB : Rd w Kb.A1 (Kb.own.map (Value.int .i64))) :
    Calls Try.prog 14 #[Ka.val, Kb.val] w fun e w' => e = .returned (.bool false) ∧ Fr (fun _ => False) w w' := by
  have la : Ka.own.length = 2 := by rw [ha]; rfl
  have lb : Kb.own.length = 2 := by rw [hb]; rfl
  have ra : Ka.arr = #[.slice Ka.A1 2 Ka.c1, .slice Ka.A2 Ka.rts.length Ka.c2, .slice Ka.A3 Ka.pts.length Ka.c3, .slice Ka.A4 Ka.crs.length Ka.c4, .slice Ka.A5 Ka.lns.length Ka.c5, .slice Ka.A6 Ka.rss.length Ka.c6, .bool Ka.dirty] := by unfold Km.arr; rw [la]
  have rb : Kb.arr = #[.slice Kb.A1 2 Kb.c1, .slice Kb.A2 Kb.rts.length Kb.c2, .slice Kb.A3 Kb.pts.length Kb.c3, .slice Kb.A4 Kb.crs.length Kb.c4, .slice Kb.A5 Kb.lns.length Kb.c5, .slice Kb.A6 Kb.rss.length Kb.c6, .bool Kb.dirty] := by unfold Km.arr; rw [lb]
  unfold Km.val
  rw [ra, rb]
  rw [ha] at hA
  rw [hb] at hB
  have KS := fun W (f : Fr (fun _ => False) w W) => sint_not (c := Ka.c1) (d := Kb.c1) hxy (hA.fr f fun _ _ => id) (hB.fr f fun _ _ => id)
  clear hA hB ha hb la lb ra rb
  have HF := Lib.hid (((Fr.refl (fun _ => False) w).alloc (.cells #[.slice Ka.A1 2 Ka.c1, .slice Ka.A2 Ka.rts.length Ka.c2, .slice Ka.A3 Ka.pts.length Ka.c3, .slice Ka.A4 Ka.crs.length Ka.c4, .slice Ka.A5 Ka.lns.length Ka.c5, .slice Ka.A6 Ka.rss.length Ka.c6, .bool Ka.dirty] 35)).alloc (.cells #[.slice Kb.A1 2 Kb.c1, .slice Kb.A2 Kb.rts.length Kb.c2, .slice Kb.A3 Kb.pts.length Kb.c3, .slice Kb.A4 Kb.crs.length Kb.c4, .slice Kb.A5 Kb.lns.length Kb.c5, .slice Kb.A6 Kb.rss.length Kb.c6, .bool Kb.dirty] 35))
  have HI := Lib.hid ((Is.new w 35 #[.slice Ka.A1 2 Ka.c1, .slice Ka.A2 Ka.rts.length Ka.c2, .slice Ka.A3 Ka.pts.length Ka.c3, .slice Ka.A4 Ka.crs.length Ka.c4, .slice Ka.A5 Ka.lns.length Ka.c5, .slice Ka.A6 Ka.rss.length Ka.c6, .bool Ka.dirty]).alloc (.cells #[.slice Kb.A1 2 Kb.c1, .slice Kb.A2 Kb.rts.length Kb.c2, .slice Kb.A3 Kb.pts.length Kb.c3, .slice Kb.A4 Kb.crs.length Kb.c4, .slice Kb.A5 Kb.lns.length Kb.c5, .slice Kb.A6 Kb.rss.length Kb.c6, .bool Kb.dirty] 35))
  have hj := Is.new (w.alloc (.cells #[.slice Ka.A1 2 Ka.c1, .slice Ka.A2 Ka.rts.length Ka.c2, .slice Ka.A3 Ka.pts.length Ka.c3, .slice Ka.A4 Ka.crs.length Ka.c4, .slice Ka.A5 Ka.lns.length Ka.c5, .slice Ka.A6 Ka.rss.length Ka.c6, .bool Ka.dirty] 35)) 35 #[.slice Kb.A1 2 Kb.c1, .slice Kb.A2 Kb.rts.length Kb.c2, .slice Kb.A3 Kb.pts.length Kb.c3, .slice Kb.A4 Kb.crs.length Kb.c4, .slice Kb.A5 Kb.lns.length Kb.c5, .slice Kb.A6 Kb.rss.length Kb.c6, .bool Kb.dirty]
  simp only [World.size_alloc] at hj
  have HJ := Lib.hid hj
  clear hj
  go_enter Try.func14, Try.ntmps14
  go_upto_region 1 with fail
  generalize (w.alloc _).alloc _ = w1 at *
  have c0 : w1.cell? ⟨w.heap.size, 0, none⟩ = some (.slice Ka.A1 2 Ka.c1) := HI.out.cell 0
  have d0 : w1.cell? ⟨w.heap.size + 1, 0, none⟩ = some (.slice Kb.A1 2 Kb.c1) := HJ.out.cell 0
  have KS := KS _ HF.out
  go_wp2_with fail
  refine KS.mono ?_
  rintro _ w2 ⟨rfl, f2⟩
  have HF2 := Lib.hid (fr_nil HF.out f2)
  clear KS f2 c0 d0
  go_wp2_with fail
  go_ret
  exact ⟨rfl, HF2.out⟩
end Go.Proofs.Ytnnacdkijeoeoaa.Bk
/- Plain: states of an end, step by step; what the laws look at (written by gen/grants.py). -/
namespace Go.Proofs.Ytnnacdkijeoeoaa.Bk
open Go.RowKit Lk Nk

theorem tm_ok {n : Int} (h : 0 ≤ n) (h2 : n ≤ 4294967295) : tmB n = true := tm_iff.2 ⟨h, h2⟩
theorem ln_ok {l : Ln} (h : 0 ≤ l.ask ∧ l.ask ≤ 4294967295) (h1 : 0 ≤ l.dn ∧ l.dn ≤ 4294967295) (h2 : 0 ≤ l.gr ∧ l.gr ≤ 4294967295) (h3 : 0 ≤ l.told ∧ l.told ≤ 4294967295) (h4 : 0 ≤ l.pa ∧ l.pa ≤ 4294967295) (h5 : 0 ≤ l.pd ∧ l.pd ≤ 4294967295) (h6 : 0 ≤ l.pg ∧ l.pg ≤ 4294967295) (h7 : 0 ≤ l.since ∧ l.since ≤ 4294967296) : lnB l = true := by
  unfold lnB
  simp only [List.all_cons, List.all_nil, Bool.and_true, Bool.and_eq_true]
  exact ⟨⟨tm_iff.2 h, tm_iff.2 h1, tm_iff.2 h2, tm_iff.2 h3, tm_iff.2 h4, tm_iff.2 h5, tm_iff.2 h6⟩, inB_iff.2 h7⟩
/-- a line's state with some numbers -/
def lnG (gr told pa pd since : Int) : Ln := ⟨0, 0, gr, told, pa, pd, 0, since⟩
theorem okG {o gr told pa pd since : Int} (ho : -2 ≤ o ∧ o ≤ 1) (h1 : 0 ≤ gr ∧ gr ≤ 2000) (h2 : 0 ≤ told ∧ told ≤ 2000) (h3 : 0 ≤ pa ∧ pa ≤ 2000) (h4 : 0 ≤ pd ∧ pd ≤ 2000) (h5 : 0 ≤ since ∧ since ≤ 2000) : EndOk o 0 default (lnG gr told pa pd since) :=
  ⟨ho, by decide, by decide, ln_ok (by show (0 : Int) ≤ 0 ∧ (0 : Int) ≤ 4294967295; omega) (by show (0 : Int) ≤ 0 ∧ (0 : Int) ≤ 4294967295; omega) (by show 0 ≤ gr ∧ gr ≤ _; omega) (by show 0 ≤ told ∧ told ≤ _; omega) (by show 0 ≤ pa ∧ pa ≤ _; omega) (by show 0 ≤ pd ∧ pd ≤ _; omega) (by show (0 : Int) ≤ 0 ∧ (0 : Int) ≤ 4294967295; omega) (by show 0 ≤ since ∧ since ≤ _; omega)⟩
theorem sA {a : Int} (h : 0 < a) : stepK 1 0 1 0 0 default (lnG 0 0 a 0 0) false = endK (-2) 0 default (lnG a 0 a 0 0) true := by
  simp [stepK, oneE, one, lnG, h]
theorem sB {a t now occ st : Int} (h : 0 < a) : stepK now occ st (-2) 0 default (lnG a t a 0 0) false = endK (-2) 0 default (lnG a a a 0 0) false := by
  simp [stepK, oneE, one, lnG, h]
theorem sC {a t now occ st : Int} : stepK now occ st (-2) 0 default (lnG a t a a 0) false = endK (-2) 0 default (lnG a a a a (now + 1)) false := by
  simp [stepK, oneE, one, lnG]
theorem sD {a t now st s : Int} (h : s ≠ 0) : stepK now 1 st (-2) 0 default (lnG a t a a s) false = endK (-2) 0 default (lnG a a a a s) false := by
  simp [stepK, oneE, one, lnG, h]
theorem sE {a t now st s : Int} (h : s ≠ 0) (h2 : s ≤ st) : stepK now 0 st (-2) 0 default (lnG a t a a s) false = endK 0 0 default (lnG a a a a 0) true := by
  simp [stepK, oneE, one, lnG, h, h2]
/-- what the laws look at of an end's state behind its address -/
theorem look_at {w0 w : World} {kb : Nat} {K : Km} {o o2 : Int} {r : Rs} {l : Ln} {d : Bool} (h : Bx w0 w kb K) (hk : K.kp = endK o o2 r l d) : ∃ g1 o1 g5 o5, w.cell? ⟨kb, 0, none⟩ = some (.slice (some ⟨g1, o1, none⟩) 2 K.c1) ∧ w.cell? ⟨g1, o1, none⟩ = some (.int .i64 o) ∧ w.cell? ⟨kb, 1, none⟩ = some (.slice K.A2 K.rts.length K.c2) ∧ w.cell? ⟨kb, 2, none⟩ = some (.slice K.A3 K.pts.length K.c3) ∧ w.cell? ⟨kb, 3, none⟩ = some (.slice K.A4 K.crs.length K.c4) ∧ w.cell? ⟨kb, 4, none⟩ = some (.slice (some ⟨g5, o5, none⟩) 4 K.c5) ∧ w.cell? ⟨kb, 5, none⟩ = some (.slice K.A6 K.rss.length K.c6) ∧ w.cell? ⟨kb, 6, none⟩ = some (.bool d) ∧
    ∀ W, Fr (fun _ => False) w W → Calls Try.prog 12 #[.agg #[.slice (some ⟨g1, o1, none⟩) 2 K.c1, .slice K.A2 K.rts.length K.c2, .slice K.A3 K.pts.length K.c3, .slice K.A4 K.crs.length K.c4, .slice (some ⟨g5, o5, none⟩) 4 K.c5, .slice K.A6 K.rss.length K.c6, .bool d], .int .i64 1] W fun e w' => e = .returned (.agg #[.int .i64 l.ask, .int .i64 l.dn, .int .i64 l.told]) ∧ Fr (fun _ => False) W w' := by
  obtain ⟨c0, c1, c2, c3, c4, c5, c6⟩ := Bk.core7 (K := K) h.is
  have e1 : K.own = [o, o2] := congrArg Kp.own hk
  have e5 : K.lns = [default, l, default, default] := congrArg Kp.lns hk
  have e7 : K.dirty = d := congrArg Kp.dirty hk
  obtain ⟨g1, o1, hA1, d0⟩ := rd_int (wide_rd h.own.own) (j := 0) (by rw [e1]; simp)
  obtain ⟨g5, o5, hA5, -⟩ := rd_ln (wide_rd h.own.lns) (j := 1) (by rw [e5]; simp)
  simp only [e1, List.getElem_cons_zero, Nat.add_zero] at d0
  have KT := fun W (f : Fr (fun _ => False) w W) => tell_any K W (wide_rd (h.own.fr f fun _ _ => id).lns) (by rw [e5]; simp) 1
  rw [show tellM K.kp 1 = ⟨l.ask, l.dn, l.told⟩ from by rw [hk]; rfl] at KT
  unfold Bl.val Km.val Km.arr at KT
  rw [hA1, show K.own.length = 2 by rw [e1]; rfl] at c0
  rw [hA5, show K.lns.length = 4 by rw [e5]; rfl] at c4
  rw [hA1, show K.own.length = 2 by rw [e1]; rfl, hA5, show K.lns.length = 4 by rw [e5]; rfl] at KT
  rw [e7] at c6 KT
  exact ⟨g1, o1, g5, o5, c0, d0, c1, c2, c3, c4, c5, c6, KT⟩
set_option maxRecDepth 100000 in
theorem field_two (x y z : Int) (W : World) : (Instr.field 37 (.agg #[.int .i64 x, .int .i64 y, .int .i64 z]) 2).run Try.prog W = .ok (.int .i64 z) W := by
  first
    | rfl
    | (go_simp; rfl)
    | (simp [go_sem]; rfl)
theorem dirt_kp {K : Km} {o o2 : Int} {r : Rs} {l : Ln} {d : Bool} (hk : K.kp = endK o o2 r l d) (b : Bool) : ({ K with dirty := b } : Km).kp = endK o o2 r l b := by
  unfold Km.kp endK at hk ⊢
  simp only [Kp.mk.injEq] at hk ⊢
  exact ⟨hk.1, hk.2.1, hk.2.2.1, hk.2.2.2.1, hk.2.2.2.2.1, hk.2.2.2.2.2.1, trivial⟩
end Go.Proofs.Ytnnacdkijeoeoaa.Bk

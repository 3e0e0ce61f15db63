/- Contracts and plain mathematics of earlier stages: Textc, Rsg, Rcs. -/
import Derived.Deep.RegionHeld3
import Derived.Test.YtginfnbdnkgjbaaGreatKy
import Derived.Deep.LoopGhost
namespace Go.Proofs.YtginfnbdnkgjbaaGreat
open Go.RowKit

theorem conf_cells {C : Cm} {w : World} {b : Nat} (h : Is w b 30 C.arr) : w.cell? ⟨b, 0, none⟩ = some (.slice C.A1 C.l.length C.c1) ∧ w.cell? ⟨b, 1, none⟩ = some (.slice C.A2 C.js.length C.c2) ∧ w.cell? ⟨b, 2, none⟩ = some (.slice C.A3 C.sg.length C.c3) ∧ w.cell? ⟨b, 3, none⟩ = some (.slice C.A4 C.cr.length C.c4) ∧ w.cell? ⟨b, 4, none⟩ = some (.slice C.A5 C.rs.length C.c5) ∧ w.cell? ⟨b, 5, none⟩ = some (.int .i64 C.tm.age) ∧ w.cell? ⟨b, 6, none⟩ = some (.int .i64 C.tm.brake) ∧ w.cell? ⟨b, 7, none⟩ = some (.int .i64 C.tm.hold) ∧ w.cell? ⟨b, 8, none⟩ = some (.int .i64 C.tm.budget) :=
  ⟨h.cell 0, h.cell 1, h.cell 2, h.cell 3, h.cell 4, h.cell 5, h.cell 6, h.cell 7, h.cell 8⟩

end Go.Proofs.YtginfnbdnkgjbaaGreat

namespace Go.Proofs.YtginfnbdnkgjbaaGreat
open Go.RowKit

/-- the document's check of the signals ahead -/
def rsigsL (js : List Jo) (all : List Sg) : List Sg → Int → Bool
  | [], _ => true
  | x :: r, i => nextOk js x.sec x.fin && (!atL x.sec x.fin i all 0 && rsigsL js all r (i + 1))
set_option maxHeartbeats 4000000 in
theorem rsignals_any (C : Cm) (w : World) (h : C.Ok w) : Calls Tryz.prog 60 #[C.val] w fun x w' => x = .returned (.bool (rsigsL C.js C.sg C.sg 0 && decide (C.sg.length ≤ 12))) ∧ Fr (fun _ => False) w w' := by
  have F := (Fr.refl (fun _ => False) w).alloc (.cells C.arr 30)
  have isC := Is.new w 30 C.arr
  have b3 := h.b3
  have KA := fun s e b W (f : Fr (fun _ => False) w W) => rat_any C s e b W (h.fr f)
  generalize hT : rsigsL C.js C.sg C.sg 0 = T
  have HT := Lib.hid hT
  clear hT
  unfold Cm.val at KA ⊢
  unfold Cm.arr at F isC KA ⊢
  have p2 := isC.cell 2
  simp only [List.getElem?_toArray, List.getElem?_cons_zero, List.getElem?_cons_succ] at p2
  go_enter Tryz.func60, Tryz.ntmps60
  go_wp2_with fail
  clear p2
  go_loopg [3, 4, 5, 6, 7, 11] C.sg.length (fun gi _ _ _ _ _ v11 wr => ∃ k : Nat, k ≤ C.sg.length ∧ gi = C.sg.length - k ∧ v11 = .int .i64 (k : Nat) ∧ rsigsL C.js C.sg (C.sg.drop k) (k : Nat) = T ∧ Is wr w.heap.size 30 C.arr ∧ Fr (fun _ => False) w wr)
  case atStart => exact ⟨0, Nat.zero_le _, rfl, rfl, HT.out, isC, F⟩
  case round =>
    clear HT F isC
    obtain ⟨k, hk, rfl, rfl, hT, isC, f⟩ := hrel
    by_cases hlt : k < C.sg.length
    · obtain ⟨g, o, hA, q0, q1⟩ := rd_sg (h.sigs.fr f fun _ _ => id) hlt
      rw [List.drop_eq_getElem_cons hlt, rsigsL] at hT
      generalize hrest : rsigsL C.js C.sg (C.sg.drop (k + 1)) ((k : Nat) + 1 : Int) = rest at hT
      have HR := Lib.hid hrest
      clear hrest
      generalize C.sg[k] = y at *
      obtain ⟨ys, ye⟩ := y
      dsimp only at *
      have KN := fun W (f : Fr (fun _ => False) w W) => rnext_any (c := C.c2) ys ye W (h.jos.fr f fun _ _ => id) (by have := h.b2; omega)
      have KAt := KA ys ye (k : Int)
      have i1 : (0 : Int) ≤ (k : Int) := by omega
      have i2 : (k : Int) < (C.sg.length : Int) := by omega
      have HA := Lib.hid hA
      have f1 := f.alloc (.cells #[.int .i64 ys, .int .i64 ye] 152)
      have isC1 := isC.alloc (.cells #[.int .i64 ys, .int .i64 ye] 152)
      have isx := Is.new wr 152 #[.int .i64 ys, .int .i64 ye]
      rw [hA]
      clear hA isC KA
      go_upto_region 4 with (fail)
      clear f q0 q1
      generalize wr.alloc _ = w1 at *
      generalize wr.heap.size = xb at *
      obtain ⟨p0, p1, p2, p3, p4, p5, p6, p7, p8⟩ := conf_cells isC1
      have x0 : w1.cell? ⟨xb, 0, none⟩ = some (.int .i64 ys) := isx.cell 0
      have x1 : w1.cell? ⟨xb, 1, none⟩ = some (.int .i64 ye) := isx.cell 1
      go_wp2_with fail
      refine (KN _ f1).mono ?_
      clear KN p0 p1 p2 p3 p4 p5 p6 p7 p8 x0 x1
      rintro _ w2 ⟨rfl, f2⟩
      have F2 := fr_nil f1 f2
      have isC2 := isC1.fr f2 id
      have isx2 := isx.fr f2 id
      clear f1 f2 isC1 isx
      obtain ⟨p0, p1, p2, p3, p4, p5, p6, p7, p8⟩ := conf_cells isC2
      have x0 : w2.cell? ⟨xb, 0, none⟩ = some (.int .i64 ys) := isx2.cell 0
      have x1 : w2.cell? ⟨xb, 1, none⟩ = some (.int .i64 ye) := isx2.cell 1
      cases hok : nextOk C.js ys ye
      · rw [hok, Bool.false_and] at hT
        subst hT
        clear hok
        go_wp2_with fail
        go_ret
        exact ⟨rfl, F2⟩
      · rw [hok, Bool.true_and] at hT
        clear hok
        cases hat : atL ys ye (k : Int) C.sg 0
        · rw [hat] at KAt hT
          have hT2 : rest = T := by simpa using hT
          have HT := Lib.hid (HR.out.trans hT2)
          clear hT hT2 HR hat
          go_wp2_with fail
          refine (KAt _ F2).mono ?_
          clear KAt p0 p1 p2 p3 p4 p5 p6 p7 p8 x0 x1
          rintro _ w3 ⟨rfl, f3⟩
          have F3 := fr_nil F2 f3
          have isC3 := isC2.fr f3 id
          go_wp2_with fail
          rw [← HA.out]
          go_roundg (C.sg.length - (k + 1))
          case measure => omega
          case rel => exact ⟨k + 1, by omega, rfl, by go_num, by rw [← HT.out]; rfl, isC3, F3⟩
        · rw [hat] at KAt hT
          have hT2 : T = false := by simpa using hT.symm
          subst hT2
          clear hT hat
          go_wp2_with fail
          refine (KAt _ F2).mono ?_
          clear KAt p0 p1 p2 p3 p4 p5 p6 p7 p8 x0 x1
          rintro _ w3 ⟨rfl, f3⟩
          have F3 := fr_nil F2 f3
          go_wp2_with fail
          go_ret
          exact ⟨rfl, F3⟩
    · rw [List.drop_eq_nil_of_le (by omega), rsigsL] at hT
      subst hT
      obtain ⟨p0, p1, p2, p3, p4, p5, p6, p7, p8⟩ := conf_cells isC
      have e12 : decide ((C.sg.length : Int) ≤ 12) = decide (C.sg.length ≤ 12) := by
        by_cases e : C.sg.length ≤ 12
        · simp [e]; omega
        · simp [e]; omega
      go_wp2_with fail
      go_ret
      refine ⟨?_, f⟩
      try rw [e12]
      try rfl
      try simp

/-- and it is the program's -/
theorem atL_none (s e b : Int) : ∀ (l : List Sg) (i : Int), atL s e b l i = false ↔ ∀ (k : Nat) (hk : k < l.length), l[k].sec = s → l[k].fin = e → i + k = b
  | [], _ => by simp [atL]
  | x :: r, i => by
    rw [atL, Bool.or_eq_false_iff, atL_none s e b r (i + 1)]
    constructor
    · rintro ⟨h1, h2⟩ k hk hs he
      cases k with
      | zero =>
        simp only [List.getElem_cons_zero] at hs he
        simp [hs, he] at h1
        simpa using h1
      | succ k =>
        simp only [List.getElem_cons_succ] at hs he
        have := h2 k (by simpa using hk) hs he
        omega
    · intro h
      refine ⟨?_, fun k hk hs he => ?_⟩
      · have := h 0 (by simp)
        simp only [List.getElem_cons_zero] at this
        by_cases h1 : x.sec = s
        · by_cases h2 : x.fin = e
          · have := this h1 h2
            simp only [Int.natCast_zero, Int.add_zero] at this
            simp [h1, h2, this]
          · simp [h1, h2]
        · simp [h1]
      · have := h (k + 1) (by simp; omega)
        simp only [List.getElem_cons_succ] at this
        have := this hs he
        omega
theorem rsigsL_iff (js : List Jo) (all : List Sg) : ∀ (l : List Sg) (i : Int), rsigsL js all l i = true ↔ ∀ (k : Nat) (hk : k < l.length), nextOk js l[k].sec l[k].fin = true ∧ atL l[k].sec l[k].fin (i + k) all 0 = false
  | [], _ => by simp [rsigsL]
  | x :: r, i => by
    rw [rsigsL, Bool.and_eq_true, Bool.and_eq_true, Bool.not_eq_true', rsigsL_iff js all r (i + 1)]
    constructor
    · rintro ⟨h1, h2, h3⟩ k hk
      cases k with
      | zero => simp only [List.getElem_cons_zero, Int.natCast_zero, Int.add_zero]; exact ⟨h1, h2⟩
      | succ k =>
        have := h3 k (by simpa using hk)
        simp only [List.getElem_cons_succ]
        rw [show i + ((k + 1 : Nat) : Int) = i + 1 + (k : Int) by omega]
        exact this
    · intro h
      have h0 := h 0 (by simp)
      simp only [List.getElem_cons_zero, Int.natCast_zero, Int.add_zero] at h0
      refine ⟨h0.1, h0.2, fun k hk => ?_⟩
      have := h (k + 1) (by simp; omega)
      simp only [List.getElem_cons_succ] at this
      rw [show i + ((k + 1 : Nat) : Int) = i + 1 + (k : Int) by omega] at this
      exact this
theorem sigsB_iff (js : List Jo) : ∀ (l : List Sg), sigsB js l = true ↔ (∀ x ∈ l, nextOk js x.sec x.fin = true) ∧ l.Nodup
  | [] => by simp [sigsB]
  | x :: r => by
    rw [sigsB, Bool.and_eq_true, Bool.and_eq_true, Bool.not_eq_true', sigsB_iff js r, List.nodup_cons]
    simp only [List.mem_cons, forall_eq_or_imp, List.contains_eq_mem, decide_eq_false_iff_not]
    exact ⟨fun ⟨a, b, c, d⟩ => ⟨⟨a, c⟩, b, d⟩, fun ⟨⟨a, c⟩, b, d⟩ => ⟨a, b, c, d⟩⟩
theorem sigs_ref (js : List Jo) (sg : List Sg) : rsigsL js sg sg 0 = sigsB js sg := by
  rw [Bool.eq_iff_iff, rsigsL_iff, sigsB_iff]
  simp only [atL_none]
  constructor
  · intro h
    refine ⟨fun x hx => ?_, ?_⟩
    · obtain ⟨k, hk, rfl⟩ := List.getElem_of_mem hx
      exact (h k hk).1
    · rw [List.nodup_iff_pairwise_ne, List.pairwise_iff_getElem]
      intro a b ha hb hab e
      have := (h a ha).2 b hb (by rw [e]) (by rw [e])
      omega
  · rintro ⟨h1, h2⟩ k hk
    refine ⟨h1 _ (List.getElem_mem hk), fun j hj hs he => ?_⟩
    rw [List.nodup_iff_pairwise_ne, List.pairwise_iff_getElem] at h2
    have e : sg[j] = sg[k] := by
      generalize sg[j] = a at *
      generalize sg[k] = b at *
      obtain ⟨a1, a2⟩ := a
      obtain ⟨b1, b2⟩ := b
      dsimp only at *
      rw [hs, he]
    rcases Nat.lt_trichotomy j k with hlt | rfl | hlt
    · exact absurd e (h2 j k hj hk hlt)
    · omega
    · exact absurd e.symm (h2 k j hk hj hlt)

/-- the document's check of the crossings ahead -/
def rcrsL (l : List Sec) (all : List Int) : List Int → Nat → Bool
  | [], _ => true
  | s :: r, i => !decide (rkind l s < 0) && (decide (lineOf l s.toNat = 0) && (!inL (all.take i) s && rcrsL l all r (i + 1)))
theorem rd_take {w : World} {A : Option Addr} {l : List Int} (h : Rd w A (l.map (Value.int .i64))) (k : Nat) : Rd w A ((l.take k).map (Value.int .i64)) := fun h0 => by
  have e : (l.take k).map (Value.int .i64) = (l.map (Value.int .i64)).take k := List.map_take
  rw [e, List.length_take] at h0
  obtain ⟨g, o, rfl, hb, hc⟩ := h (by omega)
  refine ⟨g, o, rfl, hb, fun j u hu => hc j u ?_⟩
  rw [e, List.getElem?_take] at hu
  split at hu
  · exact hu
  · cases hu

set_option maxRecDepth 100000 in
set_option maxHeartbeats 4000000 in
theorem rcrossings_any (C : Cm) (w : World) (h : C.Ok w) : Calls Tryz.prog 61 #[C.val] w fun x w' => x = .returned (.bool (rcrsL C.l C.cr C.cr 0 && decide (C.cr.length ≤ 4))) ∧ Fr (fun _ => False) w w' := by
  have F := (Fr.refl (fun _ => False) w).alloc (.cells C.arr 30)
  have isC := Is.new w 30 C.arr
  have b4 := h.b4
  have l4 := h.l4
  have KA := fun s W (f : Fr (fun _ => False) w W) => rkind_any C s W (h.fr f)
  generalize hT : rcrsL C.l C.cr C.cr 0 = T
  have HT := Lib.hid hT
  clear hT
  unfold Cm.val at KA ⊢
  unfold Cm.arr at F isC KA ⊢
  have p3 := isC.cell 3
  simp only [List.getElem?_toArray, List.getElem?_cons_zero, List.getElem?_cons_succ] at p3
  go_enter Tryz.func61, Tryz.ntmps61
  go_wp2_with fail
  clear p3
  go_loopg [3, 4, 8] C.cr.length (fun gi _ _ v8 wr => ∃ k : Nat, k ≤ C.cr.length ∧ gi = C.cr.length - k ∧ v8 = .int .i64 (k : Nat) ∧ rcrsL C.l C.cr (C.cr.drop k) k = T ∧ Is wr w.heap.size 30 C.arr ∧ Fr (fun _ => False) w wr)
  case atStart => exact ⟨0, Nat.zero_le _, rfl, rfl, HT.out, isC, F⟩
  case round =>
    clear HT F isC
    obtain ⟨k, hk, rfl, rfl, hT, isC, f⟩ := hrel
    by_cases hlt : k < C.cr.length
    · obtain ⟨g, o, hA, q0⟩ := rd_int (h.crs.fr f fun _ _ => id) hlt
      rw [List.drop_eq_getElem_cons hlt, rcrsL] at hT
      generalize hrest : rcrsL C.l C.cr (C.cr.drop (k + 1)) (k + 1) = rest at hT
      have HR := Lib.hid hrest
      clear hrest
      generalize C.cr[k] = s at *
      have KAt := KA s
      have i1 : (0 : Int) ≤ (k : Int) := by omega
      have i2 : (k : Int) < (C.cr.length : Int) := by omega
      have HA := Lib.hid hA
      rw [hA]
      clear KA hA
      go_upto_region 4 with (fail)
      clear q0
      obtain ⟨p0, p1, p2, p3, p4, p5, p6, p7, p8⟩ := conf_cells isC
      cases hkd : decide (rkind C.l s < 0)
      rotate_left
      · rw [hkd] at hT
        have hT2 : T = false := by simpa using hT.symm
        subst hT2
        clear hT
        go_wp2_with fail
        refine (KAt _ f).mono ?_
        clear KAt p0 p1 p2 p3 p4 p5 p6 p7 p8
        rintro _ w3 ⟨rfl, f3⟩
        have F3 := fr_nil f f3
        go_wp2_with fail
        go_ret
        exact ⟨rfl, F3⟩
      rw [hkd, Bool.not_false, Bool.true_and] at hT
      have hsec : isSecB C.l.length s = true := by
        rw [decide_eq_false_iff_not] at hkd
        unfold rkind at hkd
        split at hkd
        · assumption
        · omega
      obtain ⟨m, rfl, hml⟩ := isSecB_true hsec
      rw [Int.toNat_natCast, lineOf_at hml] at hT
      obtain ⟨gz, oz, hA1, z0, z1, z2⟩ := rd_sec (h.secs.fr f fun _ _ => id) hml
      have HA1 := Lib.hid hA1
      clear hA1
      generalize C.l[m].line = ln at *
      have j5 : (0 : Int) ≤ (m : Int) := by omega
      have j6 : (m : Int) < (C.l.length : Int) := by omega
      clear hsec z0 z1
      by_cases hln : ln = 0
      rotate_left
      · have hT2 : T = false := by rw [← hT]; simp [hln]
        subst hT2
        have e0 : (ln != 0) = true := by simpa [bne_iff_ne] using hln
        clear hT hln
        go_wp2_with fail
        refine (KAt _ f).mono ?_
        clear KAt p0 p1 p2 p3 p4 p5 p6 p7 p8
        rintro _ w3 ⟨rfl, f3⟩
        have F3 := fr_nil f f3
        have isC3 := isC.fr f3 id
        obtain ⟨p0, p1, p2, p3, p4, p5, p6, p7, p8⟩ := conf_cells isC3
        have z2' := (f3.cell (p := ⟨gz, oz + m * 3 + 2, none⟩) (World.block_lt_of_cell? _ _ z2) id).trans z2
        rw [HA1.out] at p0
        clear z2
        go_wp2_with fail
        go_ret
        exact ⟨rfl, F3⟩
      subst hln
      have e0 : ((0 : Int) != 0) = false := by simp
      rw [decide_eq_true rfl, Bool.true_and] at hT
      have KI := fun W (fw : Fr (fun _ => False) wr W) => rin_any (c := C.c4) (C.cr.take k) (m : Int) W (rd_take (h.crs.fr (fr_nil f fw) fun _ _ => id) k) (by rw [List.length_take]; omega)
      rw [HA.out, List.length_take, Nat.min_eq_left hk] at KI
      have j7 : (k : Int) ≤ (C.c4 : Int) := by omega
      cases hin : inL (C.cr.take k) (m : Int)
      · rw [hin] at KI hT
        have hT2 : rest = T := by simpa using hT
        have HT := Lib.hid (HR.out.trans hT2)
        clear hT hT2 HR hin
        go_wp2_with fail
        refine (KAt _ f).mono ?_
        clear KAt p0 p1 p2 p3 p4 p5 p6 p7 p8
        rintro _ w3 ⟨rfl, f3⟩
        have F3 := fr_nil f f3
        have isC3 := isC.fr f3 id
        obtain ⟨p0, p1, p2, p3, p4, p5, p6, p7, p8⟩ := conf_cells isC3
        have z2' := (f3.cell (p := ⟨gz, oz + m * 3 + 2, none⟩) (World.block_lt_of_cell? _ _ z2) id).trans z2
        rw [HA1.out] at p0
        rw [HA.out] at p3
        clear z2
        go_wp2_with fail
        refine (KI _ f3).mono ?_
        clear KI p0 p1 p2 p3 p4 p5 p6 p7 p8 z2'
        rintro _ w4 ⟨rfl, f4⟩
        have F4 := fr_nil F3 f4
        have isC4 := isC3.fr f4 id
        go_wp2_with fail
        rw [← HA.out]
        go_roundg (C.cr.length - (k + 1))
        case measure => omega
        case rel => exact ⟨k + 1, by omega, rfl, by go_num, HT.out, isC4, F4⟩
      · rw [hin] at KI hT
        have hT2 : T = false := by simpa using hT.symm
        subst hT2
        clear hT hin
        go_wp2_with fail
        refine (KAt _ f).mono ?_
        clear KAt p0 p1 p2 p3 p4 p5 p6 p7 p8
        rintro _ w3 ⟨rfl, f3⟩
        have F3 := fr_nil f f3
        have isC3 := isC.fr f3 id
        obtain ⟨p0, p1, p2, p3, p4, p5, p6, p7, p8⟩ := conf_cells isC3
        have z2' := (f3.cell (p := ⟨gz, oz + m * 3 + 2, none⟩) (World.block_lt_of_cell? _ _ z2) id).trans z2
        rw [HA1.out] at p0
        rw [HA.out] at p3
        clear z2
        go_wp2_with fail
        refine (KI _ f3).mono ?_
        clear KI p0 p1 p2 p3 p4 p5 p6 p7 p8 z2'
        rintro _ w4 ⟨rfl, f4⟩
        have F4 := fr_nil F3 f4
        go_wp2_with fail
        go_ret
        exact ⟨rfl, F4⟩
    · rw [List.drop_eq_nil_of_le (by omega), rcrsL] at hT
      subst hT
      obtain ⟨p0, p1, p2, p3, p4, p5, p6, p7, p8⟩ := conf_cells isC
      have e4 : decide ((C.cr.length : Int) ≤ 4) = decide (C.cr.length ≤ 4) := by
        by_cases e : C.cr.length ≤ 4
        · simp [e]; omega
        · simp [e]; omega
      go_wp2_with fail
      go_ret
      refine ⟨?_, f⟩
      try rw [e4]
      try rfl
      try simp
end Go.Proofs.YtginfnbdnkgjbaaGreat

namespace Go.Proofs.YtginfnbdnkgjbaaGreat

theorem secs_each {l : List Sec} (h : sectionsB l = true) : ∀ x ∈ l, secOkB x = true := by
  induction l with
  | nil => intro x hx; cases hx
  | cons y r ih =>
    rw [sectionsB, Bool.and_eq_true] at h
    intro x hx
    rcases List.mem_cons.1 hx with rfl | hx
    · exact h.1
    · exact ih h.2 x hx
theorem kind_low {l : List Sec} (h : sectionsB l = true) (s : Int) : rkind l s < 0 ↔ isSecB l.length s = false := by
  unfold rkind
  cases hs : isSecB l.length s
  · simp
  · obtain ⟨k, rfl, hk⟩ := isSecB_true hs
    rw [if_pos rfl, Int.toNat_natCast, kindOf_at hk]
    have hx := secs_each h _ (List.getElem_mem hk)
    unfold secOkB at hx
    simp only [Bool.and_eq_true, Bool.not_eq_true', beq_eq_false_iff_ne] at hx
    have h0 := hx.1.1.1.1
    simp only [Bool.true_eq_false, iff_false]
    rcases kind_cases l[k].kind with e | e | e | e
    · omega
    · omega
    · omega
    · exfalso
      apply h0
      unfold endsM
      rw [if_neg e.1, if_neg e.2.1, if_neg e.2.2]
theorem rcrsL_iff (l : List Sec) (all : List Int) : ∀ (r : List Int) (i : Nat), rcrsL l all r i = true ↔ ∀ (k : Nat) (hk : k < r.length), ¬ rkind l r[k] < 0 ∧ lineOf l r[k].toNat = 0 ∧ inL (all.take (i + k)) r[k] = false
  | [], _ => by simp [rcrsL]
  | s :: r, i => by
    rw [rcrsL, Bool.and_eq_true, Bool.and_eq_true, Bool.and_eq_true, Bool.not_eq_true', Bool.not_eq_true', decide_eq_false_iff_not, decide_eq_true_eq, rcrsL_iff l all r (i + 1)]
    constructor
    · rintro ⟨h1, h2, h3, h4⟩ k hk
      cases k with
      | zero => simp only [List.getElem_cons_zero, Nat.add_zero]; exact ⟨h1, h2, h3⟩
      | succ k =>
        have := h4 k (by simpa using hk)
        simp only [List.getElem_cons_succ]
        rw [show i + (k + 1) = i + 1 + k by omega]
        exact this
    · intro h
      have h0 := h 0 (by simp)
      simp only [List.getElem_cons_zero, Nat.add_zero] at h0
      refine ⟨h0.1, h0.2.1, h0.2.2, fun k hk => ?_⟩
      have := h (k + 1) (by simp; omega)
      simp only [List.getElem_cons_succ] at this
      rw [show i + (k + 1) = i + 1 + k by omega] at this
      exact this
theorem crsB_iff (l : List Sec) : ∀ (r : List Int), crsB l r = true ↔ (∀ s ∈ r, isSecB l.length s = true ∧ lineOf l s.toNat = 0) ∧ r.Nodup
  | [] => by simp [crsB]
  | s :: r => by
    rw [crsB, Bool.and_eq_true, Bool.and_eq_true, Bool.and_eq_true, Bool.not_eq_true', decide_eq_true_eq, crsB_iff l r, List.nodup_cons]
    simp only [List.mem_cons, forall_eq_or_imp, List.contains_eq_mem, decide_eq_false_iff_not]
    exact ⟨fun ⟨a, b, c, d, e⟩ => ⟨⟨⟨a, b⟩, d⟩, c, e⟩, fun ⟨⟨⟨a, b⟩, d⟩, c, e⟩ => ⟨a, b, c, d, e⟩⟩
theorem crs_ref {l : List Sec} (h : sectionsB l = true) (cr : List Int) : rcrsL l cr cr 0 = crsB l cr := by
  rw [Bool.eq_iff_iff, rcrsL_iff, crsB_iff]
  constructor
  · intro hh
    refine ⟨fun s hs => ?_, ?_⟩
    · obtain ⟨k, hk, rfl⟩ := List.getElem_of_mem hs
      obtain ⟨a, b, _⟩ := hh k hk
      rw [kind_low h] at a
      exact ⟨by simpa using a, b⟩
    · rw [List.nodup_iff_pairwise_ne, List.pairwise_iff_getElem]
      intro a b ha hb hab e
      have h3 := (hh b hb).2.2
      have hm : cr[b] ∈ cr.take (0 + b) := by
        rw [← e, List.mem_take_iff_getElem]
        exact ⟨a, by omega, rfl⟩
      rw [← inL_iff] at hm
      rw [hm] at h3
      cases h3
  · rintro ⟨h1, h2⟩ k hk
    obtain ⟨a, b⟩ := h1 _ (List.getElem_mem hk)
    refine ⟨by rw [kind_low h, a]; simp, b, ?_⟩
    cases hin : inL (cr.take (0 + k)) cr[k] with
    | false => rfl
    | true =>
      rw [inL_iff, List.mem_take_iff_getElem] at hin
      obtain ⟨j, hj, e⟩ := hin
      rw [List.nodup_iff_pairwise_ne, List.pairwise_iff_getElem] at h2
      exact absurd e (h2 j k (by omega) hk (by omega))
end Go.Proofs.YtginfnbdnkgjbaaGreat


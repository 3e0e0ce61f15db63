/- The document's own signals and crossings. -/
import Derived.Test.YtkkohdmneognlaaGreatDoorMav
import Derived.Deep.LoopGhost
import Derived.Deep.CutRange
namespace Go.Proofs.YtkkohdmneognlaaGreatDoor
open Go.RowKit

/-- the document's check of the signals ahead -/
def rsigsL (js : List Jo) (all : List Sg) : List Sg → Int → Bool
  | [], _ => true
  | x :: r, i => nextOk js x.sec x.fin && (!atL x.sec x.fin i all 0 && rsigsL js all r (i + 1))
set_option maxHeartbeats 4000000 in
theorem rsignals_any (C : Cm) (w : World) (h : C.Ok w) : Calls Tryz.prog 43 #[C.val] w fun x w' => x = .returned (.bool (rsigsL C.js C.sg C.sg 0 && decide (C.sg.length ≤ 12))) ∧ Fr (fun _ => False) w w' := by
  have F := (Fr.refl (fun _ => False) w).alloc (.cells C.arr 30)
  have isC := Is.new w 30 C.arr
  have b3 := h.b3
  have KA := fun s e b W (f : Fr (fun _ => False) w W) => rat_any C s e b W (h.fr f)
  generalize hT : rsigsL C.js C.sg C.sg 0 = T
  have HT := Lib.hid hT
  clear hT
  unfold Cm.val at KA ⊢
  unfold Cm.arr at F isC KA ⊢
  have p2 := isC.cell 2
  simp only [List.getElem?_toArray, List.getElem?_cons_zero, List.getElem?_cons_succ] at p2
  go_enter Tryz.func43, Tryz.ntmps43
  go_wp2_with fail
  clear p2
  go_loopg [3, 4, 5, 6, 7, 11] C.sg.length (fun gi _ _ _ _ _ v11 wr => ∃ k : Nat, k ≤ C.sg.length ∧ gi = C.sg.length - k ∧ v11 = .int .i64 (k : Nat) ∧ rsigsL C.js C.sg (C.sg.drop k) (k : Nat) = T ∧ Is wr w.heap.size 30 C.arr ∧ Fr (fun _ => False) w wr)
  case atStart => exact ⟨0, Nat.zero_le _, rfl, rfl, HT.out, isC, F⟩
  case round =>
    clear HT F isC
    obtain ⟨k, hk, rfl, rfl, hT, isC, f⟩ := hrel
    by_cases hlt : k < C.sg.length
    · obtain ⟨g, o, hA, q0, q1⟩ := rd_sg (h.sigs.fr f fun _ _ => id) hlt
      rw [List.drop_eq_getElem_cons hlt, rsigsL] at hT
      generalize hrest : rsigsL C.js C.sg (C.sg.drop (k + 1)) ((k : Nat) + 1 : Int) = rest at hT
      have HR := Lib.hid hrest
      clear hrest
      generalize C.sg[k] = y at *
      obtain ⟨ys, ye⟩ := y
      dsimp only at *
      have KN := fun W (f : Fr (fun _ => False) w W) => rnext_any (c := C.c2) ys ye W (h.jos.fr f fun _ _ => id) (by have := h.b2; omega)
      have KAt := KA ys ye (k : Int)
      have i1 : (0 : Int) ≤ (k : Int) := by omega
      have i2 : (k : Int) < (C.sg.length : Int) := by omega
      have HA := Lib.hid hA
      have f1 := f.alloc (.cells #[.int .i64 ys, .int .i64 ye] 56)
      have isC1 := isC.alloc (.cells #[.int .i64 ys, .int .i64 ye] 56)
      have isx := Is.new wr 56 #[.int .i64 ys, .int .i64 ye]
      rw [hA]
      clear hA isC KA
      go_upto_region 4 with (fail)
      clear f q0 q1
      generalize wr.alloc _ = w1 at *
      generalize wr.heap.size = xb at *
      obtain ⟨p0, p1, p2, p3, p4, p5, p6, p7, p8⟩ := conf_cells isC1
      have x0 : w1.cell? ⟨xb, 0, none⟩ = some (.int .i64 ys) := isx.cell 0
      have x1 : w1.cell? ⟨xb, 1, none⟩ = some (.int .i64 ye) := isx.cell 1
      go_wp2_with fail
      refine (KN _ f1).mono ?_
      clear KN p0 p1 p2 p3 p4 p5 p6 p7 p8 x0 x1
      rintro _ w2 ⟨rfl, f2⟩
      have F2 := fr_nil f1 f2
      have isC2 := isC1.fr f2 id
      have isx2 := isx.fr f2 id
      clear f1 f2 isC1 isx
      obtain ⟨p0, p1, p2, p3, p4, p5, p6, p7, p8⟩ := conf_cells isC2
      have x0 : w2.cell? ⟨xb, 0, none⟩ = some (.int .i64 ys) := isx2.cell 0
      have x1 : w2.cell? ⟨xb, 1, none⟩ = some (.int .i64 ye) := isx2.cell 1
      cases hok : nextOk C.js ys ye
      · rw [hok, Bool.false_and] at hT
        subst hT
        clear hok
        go_wp2_with fail
        go_ret
        exact ⟨rfl, F2⟩
      · rw [hok, Bool.true_and] at hT
        clear hok
        cases hat : atL ys ye (k : Int) C.sg 0
        · rw [hat] at KAt hT
          have hT2 : rest = T := by simpa using hT
          have HT := Lib.hid (HR.out.trans hT2)
          clear hT hT2 HR hat
          go_wp2_with fail
          refine (KAt _ F2).mono ?_
          clear KAt p0 p1 p2 p3 p4 p5 p6 p7 p8 x0 x1
          rintro _ w3 ⟨rfl, f3⟩
          have F3 := fr_nil F2 f3
          have isC3 := isC2.fr f3 id
          go_wp2_with fail
          rw [← HA.out]
          go_roundg (C.sg.length - (k + 1))
          case measure => omega
          case rel => exact ⟨k + 1, by omega, rfl, by go_num, by rw [← HT.out]; rfl, isC3, F3⟩
        · rw [hat] at KAt hT
          have hT2 : T = false := by simpa using hT.symm
          subst hT2
          clear hT hat
          go_wp2_with fail
          refine (KAt _ F2).mono ?_
          clear KAt p0 p1 p2 p3 p4 p5 p6 p7 p8 x0 x1
          rintro _ w3 ⟨rfl, f3⟩
          have F3 := fr_nil F2 f3
          go_wp2_with fail
          go_ret
          exact ⟨rfl, F3⟩
    · rw [List.drop_eq_nil_of_le (by omega), rsigsL] at hT
      subst hT
      obtain ⟨p0, p1, p2, p3, p4, p5, p6, p7, p8⟩ := conf_cells isC
      have e12 : decide ((C.sg.length : Int) ≤ 12) = decide (C.sg.length ≤ 12) := by
        by_cases e : C.sg.length ≤ 12
        · simp [e]; omega
        · simp [e]; omega
      go_wp2_with fail
      go_ret
      refine ⟨?_, f⟩
      try rw [e12]
      try rfl
      try simp

/-- and it is the program's -/
theorem atL_none (s e b : Int) : ∀ (l : List Sg) (i : Int), atL s e b l i = false ↔ ∀ (k : Nat) (hk : k < l.length), l[k].sec = s → l[k].fin = e → i + k = b
  | [], _ => by simp [atL]
  | x :: r, i => by
    rw [atL, Bool.or_eq_false_iff, atL_none s e b r (i + 1)]
    constructor
    · rintro ⟨h1, h2⟩ k hk hs he
      cases k with
      | zero =>
        simp only [List.getElem_cons_zero] at hs he
        simp [hs, he] at h1
        simpa using h1
      | succ k =>
        simp only [List.getElem_cons_succ] at hs he
        have := h2 k (by simpa using hk) hs he
        omega
    · intro h
      refine ⟨?_, fun k hk hs he => ?_⟩
      · have := h 0 (by simp)
        simp only [List.getElem_cons_zero] at this
        by_cases h1 : x.sec = s
        · by_cases h2 : x.fin = e
          · have := this h1 h2
            simp only [Int.natCast_zero, Int.add_zero] at this
            simp [h1, h2, this]
          · simp [h1, h2]
        · simp [h1]
      · have := h (k + 1) (by simp; omega)
        simp only [List.getElem_cons_succ] at this
        have := this hs he
        omega
theorem rsigsL_iff (js : List Jo) (all : List Sg) : ∀ (l : List Sg) (i : Int), rsigsL js all l i = true ↔ ∀ (k : Nat) (hk : k < l.length), nextOk js l[k].sec l[k].fin = true ∧ atL l[k].sec l[k].fin (i + k) all 0 = false
  | [], _ => by simp [rsigsL]
  | x :: r, i => by
    rw [rsigsL, Bool.and_eq_true, Bool.and_eq_true, Bool.not_eq_true', rsigsL_iff js all r (i + 1)]
    constructor
    · rintro ⟨h1, h2, h3⟩ k hk
      cases k with
      | zero => simp only [List.getElem_cons_zero, Int.natCast_zero, Int.add_zero]; exact ⟨h1, h2⟩
      | succ k =>
        have := h3 k (by simpa using hk)
        simp only [List.getElem_cons_succ]
        rw [show i + ((k + 1 : Nat) : Int) = i + 1 + (k : Int) by omega]
        exact this
    · intro h
      have h0 := h 0 (by simp)
      simp only [List.getElem_cons_zero, Int.natCast_zero, Int.add_zero] at h0
      refine ⟨h0.1, h0.2, fun k hk => ?_⟩
      have := h (k + 1) (by simp; omega)
      simp only [List.getElem_cons_succ] at this
      rw [show i + ((k + 1 : Nat) : Int) = i + 1 + (k : Int) by omega] at this
      exact this
theorem sigsB_iff (js : List Jo) : ∀ (l : List Sg), sigsB js l = true ↔ (∀ x ∈ l, nextOk js x.sec x.fin = true) ∧ l.Nodup
  | [] => by simp [sigsB]
  | x :: r => by
    rw [sigsB, Bool.and_eq_true, Bool.and_eq_true, Bool.not_eq_true', sigsB_iff js r, List.nodup_cons]
    simp only [List.mem_cons, forall_eq_or_imp, List.contains_eq_mem, decide_eq_false_iff_not]
    exact ⟨fun ⟨a, b, c, d⟩ => ⟨⟨a, c⟩, b, d⟩, fun ⟨⟨a, c⟩, b, d⟩ => ⟨a, b, c, d⟩⟩
theorem sigs_ref (js : List Jo) (sg : List Sg) : rsigsL js sg sg 0 = sigsB js sg := by
  rw [Bool.eq_iff_iff, rsigsL_iff, sigsB_iff]
  simp only [atL_none]
  constructor
  · intro h
    refine ⟨fun x hx => ?_, ?_⟩
    · obtain ⟨k, hk, rfl⟩ := List.getElem_of_mem hx
      exact (h k hk).1
    · rw [List.nodup_iff_pairwise_ne, List.pairwise_iff_getElem]
      intro a b ha hb hab e
      have := (h a ha).2 b hb (by rw [e]) (by rw [e])
      omega
  · rintro ⟨h1, h2⟩ k hk
    refine ⟨h1 _ (List.getElem_mem hk), fun j hj hs he => ?_⟩
    rw [List.nodup_iff_pairwise_ne, List.pairwise_iff_getElem] at h2
    have e : sg[j] = sg[k] := by
      generalize sg[j] = a at *
      generalize sg[k] = b at *
      obtain ⟨a1, a2⟩ := a
      obtain ⟨b1, b2⟩ := b
      dsimp only at *
      rw [hs, he]
    rcases Nat.lt_trichotomy j k with hlt | rfl | hlt
    · exact absurd e (h2 j k hj hk hlt)
    · omega
    · exact absurd e.symm (h2 k j hk hj hlt)

/-- the document's check of the crossings ahead -/
def rcrsL (l : List Sec) (all : List Int) : List Int → Nat → Bool
  | [], _ => true
  | s :: r, i => !decide (rkind l s < 0) && (decide (lineOf l s.toNat = 0) && (!inL (all.take i) s && rcrsL l all r (i + 1)))
theorem rd_take {w : World} {A : Option Addr} {l : List Int} (h : Rd w A (l.map (Value.int .i64))) (k : Nat) : Rd w A ((l.take k).map (Value.int .i64)) := fun h0 => by
  have e : (l.take k).map (Value.int .i64) = (l.map (Value.int .i64)).take k := List.map_take
  rw [e, List.length_take] at h0
  obtain ⟨g, o, rfl, hb, hc⟩ := h (by omega)
  refine ⟨g, o, rfl, hb, fun j u hu => hc j u ?_⟩
  rw [e, List.getElem?_take] at hu
  split at hu
  · exact hu
  · cases hu

set_option maxRecDepth 100000 in
set_option maxHeartbeats 4000000 in
theorem rcrossings_any (C : Cm) (w : World) (h : C.Ok w) : Calls Tryz.prog 44 #[C.val] w fun x w' => x = .returned (.bool (rcrsL C.l C.cr C.cr 0 && decide (C.cr.length ≤ 4))) ∧ Fr (fun _ => False) w w' := by
  have F := (Fr.refl (fun _ => False) w).alloc (.cells C.arr 30)
  have isC := Is.new w 30 C.arr
  have b4 := h.b4
  have l4 := h.l4
  have KA := fun s W (f : Fr (fun _ => False) w W) => rkind_any C s W (h.fr f)
  generalize hT : rcrsL C.l C.cr C.cr 0 = T
  have HT := Lib.hid hT
  clear hT
  unfold Cm.val at KA ⊢
  unfold Cm.arr at F isC KA ⊢
  have p3 := isC.cell 3
  simp only [List.getElem?_toArray, List.getElem?_cons_zero, List.getElem?_cons_succ] at p3
  go_enter Tryz.func44, Tryz.ntmps44
  go_wp2_with fail
  clear p3
  go_loopg [3, 4, 8] C.cr.length (fun gi _ _ v8 wr => ∃ k : Nat, k ≤ C.cr.length ∧ gi = C.cr.length - k ∧ v8 = .int .i64 (k : Nat) ∧ rcrsL C.l C.cr (C.cr.drop k) k = T ∧ Is wr w.heap.size 30 C.arr ∧ Fr (fun _ => False) w wr)
  case atStart => exact ⟨0, Nat.zero_le _, rfl, rfl, HT.out, isC, F⟩
  case round =>
    clear HT F isC
    obtain ⟨k, hk, rfl, rfl, hT, isC, f⟩ := hrel
    by_cases hlt : k < C.cr.length
    · obtain ⟨g, o, hA, q0⟩ := rd_int (h.crs.fr f fun _ _ => id) hlt
      rw [List.drop_eq_getElem_cons hlt, rcrsL] at hT
      generalize hrest : rcrsL C.l C.cr (C.cr.drop (k + 1)) (k + 1) = rest at hT
      have HR := Lib.hid hrest
      clear hrest
      generalize C.cr[k] = s at *
      have KAt := KA s
      have i1 : (0 : Int) ≤ (k : Int) := by omega
      have i2 : (k : Int) < (C.cr.length : Int) := by omega
      have HA := Lib.hid hA
      rw [hA]
      clear KA hA
      go_upto_region 4 with (fail)
      clear q0
      obtain ⟨p0, p1, p2, p3, p4, p5, p6, p7, p8⟩ := conf_cells isC
      cases hkd : decide (rkind C.l s < 0)
      rotate_left
      · rw [hkd] at hT
        have hT2 : T = false := by simpa using hT.symm
        subst hT2
        clear hT
        go_wp2_with fail
        refine (KAt _ f).mono ?_
        clear KAt p0 p1 p2 p3 p4 p5 p6 p7 p8
        rintro _ w3 ⟨rfl, f3⟩
        have F3 := fr_nil f f3
        go_wp2_with fail
        go_ret
        exact ⟨rfl, F3⟩
      rw [hkd, Bool.not_false, Bool.true_and] at hT
      have hsec : isSecB C.l.length s = true := by
        rw [decide_eq_false_iff_not] at hkd
        unfold rkind at hkd
        split at hkd
        · assumption
        · omega
      obtain ⟨m, rfl, hml⟩ := isSecB_true hsec
      rw [Int.toNat_natCast, lineOf_at hml] at hT
      obtain ⟨gz, oz, hA1, z0, z1, z2⟩ := rd_sec (h.secs.fr f fun _ _ => id) hml
      have HA1 := Lib.hid hA1
      clear hA1
      generalize C.l[m].line = ln at *
      have j5 : (0 : Int) ≤ (m : Int) := by omega
      have j6 : (m : Int) < (C.l.length : Int) := by omega
      clear hsec z0 z1
      by_cases hln : ln = 0
      rotate_left
      · have hT2 : T = false := by rw [← hT]; simp [hln]
        subst hT2
        have e0 : (ln != 0) = true := by simpa [bne_iff_ne] using hln
        clear hT hln
        go_wp2_with fail
        refine (KAt _ f).mono ?_
        clear KAt p0 p1 p2 p3 p4 p5 p6 p7 p8
        rintro _ w3 ⟨rfl, f3⟩
        have F3 := fr_nil f f3
        have isC3 := isC.fr f3 id
        obtain ⟨p0, p1, p2, p3, p4, p5, p6, p7, p8⟩ := conf_cells isC3
        have z2' := (f3.cell (p := ⟨gz, oz + m * 3 + 2, none⟩) (World.block_lt_of_cell? _ _ z2) id).trans z2
        rw [HA1.out] at p0
        clear z2
        go_wp2_with fail
        go_ret
        exact ⟨rfl, F3⟩
      subst hln
      have e0 : ((0 : Int) != 0) = false := by simp
      rw [decide_eq_true rfl, Bool.true_and] at hT
      have KI := fun W (fw : Fr (fun _ => False) wr W) => rin_any (c := C.c4) (C.cr.take k) (m : Int) W (rd_take (h.crs.fr (fr_nil f fw) fun _ _ => id) k) (by rw [List.length_take]; omega)
      rw [HA.out, List.length_take, Nat.min_eq_left hk] at KI
      have j7 : (k : Int) ≤ (C.c4 : Int) := by omega
      cases hin : inL (C.cr.take k) (m : Int)
      · rw [hin] at KI hT
        have hT2 : rest = T := by simpa using hT
        have HT := Lib.hid (HR.out.trans hT2)
        clear hT hT2 HR hin
        go_wp2_with fail
        refine (KAt _ f).mono ?_
        clear KAt p0 p1 p2 p3 p4 p5 p6 p7 p8
        rintro _ w3 ⟨rfl, f3⟩
        have F3 := fr_nil f f3
        have isC3 := isC.fr f3 id
        obtain ⟨p0, p1, p2, p3, p4, p5, p6, p7, p8⟩ := conf_cells isC3
        have z2' := (f3.cell (p := ⟨gz, oz + m * 3 + 2, none⟩) (World.block_lt_of_cell? _ _ z2) id).trans z2
        rw [HA1.out] at p0
        rw [HA.out] at p3
        clear z2
        go_wp2_with fail
        refine (KI _ f3).mono ?_
        clear KI p0 p1 p2 p3 p4 p5 p6 p7 p8 z2'
        rintro _ w4 ⟨rfl, f4⟩
        have F4 := fr_nil F3 f4
        have isC4 := isC3.fr f4 id
        go_wp2_with fail
        rw [← HA.out]
        go_roundg (C.cr.length - (k + 1))
        case measure => omega
        case rel => exact ⟨k + 1, by omega, rfl, by go_num, HT.out, isC4, F4⟩
      · rw [hin] at KI hT
        have hT2 : T = false := by simpa using hT.symm
        subst hT2
        clear hT hin
        go_wp2_with fail
        refine (KAt _ f).mono ?_
        clear KAt p0 p1 p2 p3 p4 p5 p6 p7 p8
        rintro _ w3 ⟨rfl, f3⟩
        have F3 := fr_nil f f3
        have isC3 := isC.fr f3 id
        obtain ⟨p0, p1, p2, p3, p4, p5, p6, p7, p8⟩ := conf_cells isC3
        have z2' := (f3.cell (p := ⟨gz, oz + m * 3 + 2, none⟩) (World.block_lt_of_cell? _ _ z2) id).trans z2
        rw [HA1.out] at p0
        rw [HA.out] at p3
        clear z2
        go_wp2_with fail
        refine (KI _ f3).mono ?_
        clear KI p0 p1 p2 p3 p4 p5 p6 p7 p8 z2'
        rintro _ w4 ⟨rfl, f4⟩
        have F4 := fr_nil F3 f4
        go_wp2_with fail
        go_ret
        exact ⟨rfl, F4⟩
    · rw [List.drop_eq_nil_of_le (by omega), rcrsL] at hT
      subst hT
      obtain ⟨p0, p1, p2, p3, p4, p5, p6, p7, p8⟩ := conf_cells isC
      have e4 : decide ((C.cr.length : Int) ≤ 4) = decide (C.cr.length ≤ 4) := by
        by_cases e : C.cr.length ≤ 4
        · simp [e]; omega
        · simp [e]; omega
      go_wp2_with fail
      go_ret
      refine ⟨?_, f⟩
      try rw [e4]
      try rfl
      try simp
end Go.Proofs.YtkkohdmneognlaaGreatDoor
/- Plain mathematics: the document's check of the crossings is the program's, where the sections are right. -/
namespace Go.Proofs.YtkkohdmneognlaaGreatDoor

theorem secs_each {l : List Sec} (h : sectionsB l = true) : ∀ x ∈ l, secOkB x = true := by
  induction l with
  | nil => intro x hx; cases hx
  | cons y r ih =>
    rw [sectionsB, Bool.and_eq_true] at h
    intro x hx
    rcases List.mem_cons.1 hx with rfl | hx
    · exact h.1
    · exact ih h.2 x hx
theorem kind_low {l : List Sec} (h : sectionsB l = true) (s : Int) : rkind l s < 0 ↔ isSecB l.length s = false := by
  unfold rkind
  cases hs : isSecB l.length s
  · simp
  · obtain ⟨k, rfl, hk⟩ := isSecB_true hs
    rw [if_pos rfl, Int.toNat_natCast, kindOf_at hk]
    have hx := secs_each h _ (List.getElem_mem hk)
    unfold secOkB at hx
    simp only [Bool.and_eq_true, Bool.not_eq_true', beq_eq_false_iff_ne] at hx
    have h0 := hx.1.1.1.1
    simp only [Bool.true_eq_false, iff_false]
    rcases kind_cases l[k].kind with e | e | e | e
    · omega
    · omega
    · omega
    · exfalso
      apply h0
      unfold endsM
      rw [if_neg e.1, if_neg e.2.1, if_neg e.2.2]
theorem rcrsL_iff (l : List Sec) (all : List Int) : ∀ (r : List Int) (i : Nat), rcrsL l all r i = true ↔ ∀ (k : Nat) (hk : k < r.length), ¬ rkind l r[k] < 0 ∧ lineOf l r[k].toNat = 0 ∧ inL (all.take (i + k)) r[k] = false
  | [], _ => by simp [rcrsL]
  | s :: r, i => by
    rw [rcrsL, Bool.and_eq_true, Bool.and_eq_true, Bool.and_eq_true, Bool.not_eq_true', Bool.not_eq_true', decide_eq_false_iff_not, decide_eq_true_eq, rcrsL_iff l all r (i + 1)]
    constructor
    · rintro ⟨h1, h2, h3, h4⟩ k hk
      cases k with
      | zero => simp only [List.getElem_cons_zero, Nat.add_zero]; exact ⟨h1, h2, h3⟩
      | succ k =>
        have := h4 k (by simpa using hk)
        simp only [List.getElem_cons_succ]
        rw [show i + (k + 1) = i + 1 + k by omega]
        exact this
    · intro h
      have h0 := h 0 (by simp)
      simp only [List.getElem_cons_zero, Nat.add_zero] at h0
      refine ⟨h0.1, h0.2.1, h0.2.2, fun k hk => ?_⟩
      have := h (k + 1) (by simp; omega)
      simp only [List.getElem_cons_succ] at this
      rw [show i + (k + 1) = i + 1 + k by omega] at this
      exact this
theorem crsB_iff (l : List Sec) : ∀ (r : List Int), crsB l r = true ↔ (∀ s ∈ r, isSecB l.length s = true ∧ lineOf l s.toNat = 0) ∧ r.Nodup
  | [] => by simp [crsB]
  | s :: r => by
    rw [crsB, Bool.and_eq_true, Bool.and_eq_true, Bool.and_eq_true, Bool.not_eq_true', decide_eq_true_eq, crsB_iff l r, List.nodup_cons]
    simp only [List.mem_cons, forall_eq_or_imp, List.contains_eq_mem, decide_eq_false_iff_not]
    exact ⟨fun ⟨a, b, c, d, e⟩ => ⟨⟨⟨a, b⟩, d⟩, c, e⟩, fun ⟨⟨⟨a, b⟩, d⟩, c, e⟩ => ⟨a, b, c, d, e⟩⟩
theorem crs_ref {l : List Sec} (h : sectionsB l = true) (cr : List Int) : rcrsL l cr cr 0 = crsB l cr := by
  rw [Bool.eq_iff_iff, rcrsL_iff, crsB_iff]
  constructor
  · intro hh
    refine ⟨fun s hs => ?_, ?_⟩
    · obtain ⟨k, hk, rfl⟩ := List.getElem_of_mem hs
      obtain ⟨a, b, _⟩ := hh k hk
      rw [kind_low h] at a
      exact ⟨by simpa using a, b⟩
    · rw [List.nodup_iff_pairwise_ne, List.pairwise_iff_getElem]
      intro a b ha hb hab e
      have h3 := (hh b hb).2.2
      have hm : cr[b] ∈ cr.take (0 + b) := by
        rw [← e, List.mem_take_iff_getElem]
        exact ⟨a, by omega, rfl⟩
      rw [← inL_iff] at hm
      rw [hm] at h3
      cases h3
  · rintro ⟨h1, h2⟩ k hk
    obtain ⟨a, b⟩ := h1 _ (List.getElem_mem hk)
    refine ⟨by rw [kind_low h, a]; simp, b, ?_⟩
    cases hin : inL (cr.take (0 + k)) cr[k] with
    | false => rfl
    | true =>
      rw [inL_iff, List.mem_take_iff_getElem] at hin
      obtain ⟨j, hj, e⟩ := hin
      rw [List.nodup_iff_pairwise_ne, List.pairwise_iff_getElem] at h2
      exact absurd e (h2 j k (by omega) hk (by omega))
end Go.Proofs.YtkkohdmneognlaaGreatDoor
/- A right route is short: its flank, its overlap, its path. -/
namespace Go.Proofs.YtkkohdmneognlaaGreatDoor
open Go.RowKit

theorem flankE_len (l : List Sec) (js : List Jo) (x : St) (e : Int) (q : List Bool × List Nd) : (flankE l js x e q).2.length ≤ q.2.length + 1 := by
  unfold flankE
  split
  · omega
  · split
    · rw [List.length_append]; simp
    · omega
theorem flankI_len (l : List Sec) (js : List Jo) (x : St) : ∀ (es : List Int) (q : List Bool × List Nd), (flankI l js x es q).2.length ≤ q.2.length + es.length
  | [], q => by simp [flankI]
  | e :: r, q => by
    have a := flankI_len l js x r (flankE l js x e q)
    have b := flankE_len l js x e q
    rw [flankI, List.length_cons]
    omega
theorem endsL_len (l : List Sec) (s : Int) : (endsL (endsOf l s)).length ≤ 4 := by
  unfold endsL endsOf
  rw [List.length_map, List.length_range]
  split
  · have := ends_bd (kindOf l s.toNat)
    omega
  · simp
theorem flankO_len (l : List Sec) (js : List Jo) : ∀ (p : List St) (q : List Bool × List Nd), (flankO l js p q).2.length ≤ q.2.length + 4 * p.length
  | [], q => by simp [flankO]
  | x :: r, q => by
    have a := flankO_len l js r (flankI l js x (endsL (endsOf l x.sec)) q)
    have b := flankI_len l js x (endsL (endsOf l x.sec)) q
    have c := endsL_len l x.sec
    rw [flankO, List.length_cons]
    omega
theorem right_short {l : List Sec} {js : List Jo} {sg : List Sg} {r : Rt} (h : errR l js sg r = 0) : r.flank.length ≤ 32 ∧ r.over.length ≤ 1 ∧ r.path.length ≤ 8 := by
  obtain ⟨h1, h2, h3⟩ := errR_parts h
  have hp : r.path.length ≤ 8 := by
    unfold routeB at h1
    simp only [Bool.and_eq_true, decide_eq_true_eq] at h1
    exact h1.2.2.2.1
  refine ⟨?_, ?_, hp⟩
  · rw [h2]
    unfold flankM
    have := flankO_len l js r.path (barM l.length (apM sg r.entry) r.path, [])
    simp only [List.length_nil] at this
    omega
  · rw [h3]
    unfold overM
    split <;> simp
end Go.Proofs.YtkkohdmneognlaaGreatDoor
/- Plain mathematics of ConfWays: a right route's path begins the way that a train takes, with the points as the path has them; what a route locks; conflicts both ways round. -/
namespace Go.Proofs.YtkkohdmneognlaaGreatDoor
open Go.RowKit

theorem pos_way (k i o : Int) (h : posOk k i o = true) : wayOk k i (posOut k i o) = true ∧ wayOut k i (posOut k i o) = o := by
  rcases kind_cases k with rfl | rfl | rfl | hk
  · simp [posOk, waysM, posOkL, farOk, farOut] at h
    rcases h with ⟨rfl | rfl, rfl⟩ <;> simp [posOut, wayOk, wayOut, waysM, posOutL, wayOkL, wayOutL, farOk, farOut, opn]
  · simp [posOk, waysM, posOkL, farOk, farOut] at h
    rcases h with ⟨rfl | rfl, rfl⟩ | ⟨rfl | rfl, rfl⟩ <;> simp [posOut, wayOk, wayOut, waysM, posOutL, wayOkL, wayOutL, farOk, farOut, opn]
  · simp [posOk, waysM, posOkL, farOk, farOut] at h
    rcases h with ⟨rfl | rfl, rfl⟩ | ⟨rfl | rfl, rfl⟩ <;> simp [posOut, wayOk, wayOut, waysM, posOutL, wayOkL, wayOutL, farOk, farOut, opn]
  · rw [posOk, ways_none hk] at h
    cases h

/-- the points as a path has them -/
def posF (l : List Sec) (p : List Int) (x : St) : List Int := p.set x.sec.toNat (posOut (kindOf l x.sec.toNat) x.inn x.out)
def posL (l : List Sec) (path : List St) (p : List Int) : List Int := path.foldl (posF l) p
theorem posF_length (l : List Sec) (p : List Int) (x : St) : (posF l p x).length = p.length := List.length_set
theorem posL_length (l : List Sec) : ∀ (path : List St) (p : List Int), (posL l path p).length = p.length
  | [], _ => rfl
  | x :: r, p => by
    show (posL l r (posF l p x)).length = _
    rw [posL_length l r, posF_length]
theorem posL_take (l : List Sec) (path : List St) (p : List Int) {k : Nat} (h : k < path.length) : posL l (path.take (k + 1)) p = posF l (posL l (path.take k) p) path[k] := by
  unfold posL
  rw [List.take_succ_eq_append_getElem h, List.foldl_append]
  rfl

/-- each in another section: no more of them than there are sections left -/
theorem once_few : ∀ (p : List St) (b : List Bool), onceB b p = true → (∀ x ∈ p, x.sec.toNat < b.length) → p.length ≤ unseen b
  | [], _, _, _ => Nat.zero_le _
  | y :: r, b, h, hl => by
    have hy := hl y List.mem_cons_self
    unfold onceB at h
    rw [Bool.and_eq_true, Bool.not_eq_true'] at h
    have ih := once_few r _ h.2 (fun x hx => by rw [List.length_set]; exact hl x (List.mem_cons_of_mem _ hx))
    have := unseen_set b _ hy h.1
    rw [List.length_cons]
    omega
/-- none of a path's sections is one of those -/
theorem once_not : ∀ (p : List St) (b : List Bool), onceB b p = true → ∀ x ∈ p, x.sec.toNat < b.length → seenAt b x.sec.toNat = false
  | [], _, _, x, hx, _ => by cases hx
  | y :: r, b, h, x, hx, hl => by
    unfold onceB at h
    rw [Bool.and_eq_true, Bool.not_eq_true'] at h
    rcases List.mem_cons.1 hx with e | hx
    · rw [e]; exact h.1
    · have ih := once_not r _ h.2 x hx (by rw [List.length_set]; exact hl)
      by_cases hy : y.sec.toNat < b.length
      · rw [seenAt_set _ _ _ hy, Bool.or_eq_false_iff] at ih
        exact ih.2
      · rw [List.set_eq_of_length_le (by omega)] at ih
        exact ih
theorem once_less : ∀ (p : List St) (b c : List Bool), b.length = c.length → (∀ k, seenAt c k = true → seenAt b k = true) → onceB b p = true → onceB c p = true
  | [], _, _, _, _, _ => rfl
  | y :: r, b, c, hl, hs, h => by
    unfold onceB at h ⊢
    rw [Bool.and_eq_true, Bool.not_eq_true'] at h ⊢
    refine ⟨?_, once_less r (b.set y.sec.toNat true) (c.set y.sec.toNat true) (by rw [List.length_set, List.length_set, hl]) (fun k hk => ?_) h.2⟩
    · cases hc : seenAt c y.sec.toNat with
      | false => rfl
      | true => rw [hs _ hc] at h; cases h.1
    · by_cases hy : y.sec.toNat < b.length
      · rw [seenAt_set _ _ _ (by omega)] at hk
        rw [seenAt_set _ _ _ hy]
        rw [Bool.or_eq_true] at hk ⊢
        exact hk.imp id (hs k)
      · rw [List.set_eq_of_length_le (by omega)] at hk ⊢
        exact hs k hk
/-- a position that a path's rest doesn't touch -/
theorem posL_other (l : List Sec) : ∀ (path : List St) (p : List Int) (b : List Bool) (k : Nat), onceB b path = true → seenAt b k = true → (∀ x ∈ path, x.sec.toNat < b.length) → posAt (posL l path p) k = posAt p k
  | [], _, _, _, _, _, _ => rfl
  | x :: r, p, b, k, h, hk, hl => by
    have hx := hl x List.mem_cons_self
    unfold onceB at h
    rw [Bool.and_eq_true, Bool.not_eq_true'] at h
    have ih := posL_other l r (posF l p x) (b.set x.sec.toNat true) k h.2 (by rw [seenAt_set _ _ _ hx, hk, Bool.or_true]) (fun y hy => by rw [List.length_set]; exact hl y (List.mem_cons_of_mem _ hy))
    show posAt (posL l r (posF l p x)) k = _
    rw [ih]
    have hne : x.sec.toNat ≠ k := fun e => by rw [e, hk] at h; cases h.1
    unfold posAt posF
    rw [List.getD_eq_getElem?_getD, List.getD_eq_getElem?_getD, List.getElem?_set_ne hne]
theorem posL_at (l : List Sec) : ∀ (path : List St) (p : List Int) (b : List Bool), onceB b path = true → (∀ x ∈ path, x.sec.toNat < b.length) → b.length = p.length → ∀ x ∈ path, posAt (posL l path p) x.sec.toNat = posOut (kindOf l x.sec.toNat) x.inn x.out
  | [], _, _, _, _, _, x, hx => by cases hx
  | y :: r, p, b, h, hl, hlen, x, hx => by
    have hy := hl y List.mem_cons_self
    unfold onceB at h
    rw [Bool.and_eq_true, Bool.not_eq_true'] at h
    have hl2 : ∀ z ∈ r, z.sec.toNat < (b.set y.sec.toNat true).length := fun z hz => by rw [List.length_set]; exact hl z (List.mem_cons_of_mem _ hz)
    show posAt (posL l r (posF l p y)) x.sec.toNat = _
    rcases List.mem_cons.1 hx with e | hx
    · subst e
      rw [posL_other l r _ _ _ h.2 (by rw [seenAt_set _ _ _ hy]; simp) hl2]
      unfold posAt posF
      rw [List.getD_eq_getElem?_getD, List.getElem?_set_self (by omega)]
      rfl
    · exact posL_at l r _ _ h.2 hl2 (by rw [List.length_set, posF_length, hlen]) x hx

/-- the way of a train begins with a path that hangs together -/
theorem follow_path {l : List Sec} {js : List Jo} {p : List Int} : ∀ (path : List St) (f : Nat) (seen : List Bool) (s i : Int) (ok : Bool), path.length ≤ f → hangsB l js ok s i path = true → onceB seen path = true →
    (∀ x ∈ path, isSecB l.length x.sec = true) → (∀ x ∈ path, posAt p x.sec.toNat = posOut (kindOf l x.sec.toNat) x.inn x.out) → ∃ t, followF f l js p seen s i = path ++ t
  | [], _, _, _, _, _, _, _, _, _, _ => ⟨_, rfl⟩
  | x :: r, 0, _, _, _, _, h, _, _, _, _ => by simp at h
  | x :: r, f + 1, seen, s, i, ok, hf, hh, ho, hs, hp => by
    unfold hangsB at hh
    simp only [Bool.and_eq_true, decide_eq_true_eq] at hh
    obtain ⟨_, h1, h2, h3, h4⟩ := hh
    unfold onceB at ho
    rw [Bool.and_eq_true, Bool.not_eq_true'] at ho
    have hx := hs x List.mem_cons_self
    have hpx := hp x List.mem_cons_self
    obtain ⟨xs, xi, xo⟩ := x
    dsimp only at *
    subst h1 h2
    obtain ⟨w1, w2⟩ := pos_way _ _ _ h3
    rw [followF, if_pos (by rw [hx, ho.1]; rfl), hpx, if_pos w1, w2]
    cases r with
    | nil => exact ⟨_, rfl⟩
    | cons y r' =>
      have hn : nextOk js xs xo = true := by
        unfold hangsB at h4
        rw [Bool.and_eq_true] at h4
        exact h4.1
      rw [if_pos hn]
      obtain ⟨t, ht⟩ := follow_path (y :: r') f (seen.set xs.toNat true) (nextS js xs xo) (nextE js xs xo) (nextOk js xs xo) (by simpa using hf) h4 ho.2 (fun z hz => hs z (List.mem_cons_of_mem _ hz)) (fun z hz => hp z (List.mem_cons_of_mem _ hz))
      rw [ht]
      exact ⟨t, rfl⟩

theorem seen_none (n k : Nat) : seenAt (List.replicate n false) k = false := by
  unfold seenAt
  rw [List.getD_eq_getElem?_getD, List.getElem?_replicate]
  split <;> rfl
theorem nat_of_sec {n : Nat} {s : Int} (h : isSecB n s = true) : s.toNat < n := by
  obtain ⟨k, rfl, hk⟩ := isSecB_true h
  rw [Int.toNat_natCast]
  exact hk

/-! ### What a flank holds -/
def Fine (n : Nat) (b0 : List Bool) (q : List Bool × List Nd) : Prop := q.1.length = n ∧ (∀ k, seenAt b0 k = true → seenAt q.1 k = true) ∧ ∀ d ∈ q.2, isSecB n d.sec = true ∧ seenAt b0 d.sec.toNat = false
theorem fine_E {l : List Sec} {js : List Jo} {b0 : List Bool} {x : St} {e : Int} {q : List Bool × List Nd} (h : Fine l.length b0 q) : Fine l.length b0 (flankE l js x e q) := by
  unfold flankE
  split
  · exact h
  · split
    · rename_i hg
      obtain ⟨h1, h2, h3⟩ := h
      rw [Bool.and_eq_true, Bool.not_eq_true'] at hg
      have hs : isSecB l.length (nextS js x.sec e) = true := by
        have := hg.1
        unfold guardOk at this
        simp only [Bool.and_eq_true] at this
        exact this.2.1
      refine ⟨by rw [List.length_set]; exact h1, fun k hk => ?_, fun d hd => ?_⟩
      · show seenAt (q.1.set _ true) k = true
        rw [seenAt_set _ _ _ (by rw [h1]; exact nat_of_sec hs), h2 k hk, Bool.or_true]
      · rcases List.mem_append.1 hd with hd | hd
        · exact h3 d hd
        · rw [List.mem_singleton] at hd
          subst hd
          refine ⟨hs, ?_⟩
          show seenAt b0 (nextS js x.sec e).toNat = false
          cases hb : seenAt b0 (nextS js x.sec e).toNat with
          | false => rfl
          | true => rw [h2 _ hb] at hg; cases hg.2
    · exact h
theorem fine_I {l : List Sec} {js : List Jo} {b0 : List Bool} {x : St} : ∀ (es : List Int) {q : List Bool × List Nd}, Fine l.length b0 q → Fine l.length b0 (flankI l js x es q)
  | [], _, h => h
  | e :: r, _, h => fine_I r (fine_E (e := e) h)
theorem fine_O {l : List Sec} {js : List Jo} {b0 : List Bool} : ∀ (p : List St) {q : List Bool × List Nd}, Fine l.length b0 q → Fine l.length b0 (flankO l js p q)
  | [], _, h => h
  | x :: r, _, h => fine_O r (fine_I (x := x) _ h)
theorem bar_ap (n : Nat) (ap : Int) (path : List St) {s : Int} (hs : isSecB n s = true) (h : seenAt (barM n ap path) s.toNat = false) : s ≠ ap := by
  obtain ⟨k, rfl, hk⟩ := isSecB_true hs
  rw [Int.toNat_natCast, barM_at _ _ _ _ hk, Bool.or_eq_false_iff] at h
  rintro rfl
  simp at h

/-! ### A right station -/
structure Route (l : List Sec) (js : List Jo) (sg : List Sg) (r : Rt) : Prop where
  sig : isSecB sg.length r.entry = true
  ok : nextOk js (sgAt sg r.entry).sec (sgAt sg r.entry).fin = true
  one : 1 ≤ r.path.length
  eight : r.path.length ≤ 8
  sec : (r.path.getD 0 default).sec = nextS js (sgAt sg r.entry).sec (sgAt sg r.entry).fin
  inn : (r.path.getD 0 default).inn = nextE js (sgAt sg r.entry).sec (sgAt sg r.entry).fin
  path : ∀ x ∈ r.path, isSecB l.length x.sec = true
  follow : ∃ t, followM l js (nextS js (sgAt sg r.entry).sec (sgAt sg r.entry).fin) (nextE js (sgAt sg r.entry).sec (sgAt sg r.entry).fin) (posL l r.path (List.replicate l.length 0)) = r.path ++ t
  locks : ∀ x ∈ locksM r, isSecB l.length x = true ∧ x ≠ (sgAt sg r.entry).sec
theorem route_right {c : Cf} (h : checkE c = 0) {r : Rt} (hr : r ∈ c.rts) : Route c.secs c.jos c.sigs r := by
  have hpath := path_in h hr
  obtain ⟨h1, h2, h3, h4, h5, h6⟩ := check_parts h
  obtain ⟨a, hfl, hov⟩ := errR_parts (routesE_zero h5 r hr)
  unfold checkB at h1
  unfold routeB at a
  simp only [Bool.and_eq_true, decide_eq_true_eq] at h1 a
  obtain ⟨a1, a2, a3, a4, a5, a6, _⟩ := a
  have hj := h1.2.2.1
  have hap : apM c.sigs r.entry = (sgAt c.sigs r.entry).sec := by
    unfold apM
    rw [if_pos a1]
  rw [hap] at hfl
  unfold overM overOk at hov
  rw [hap] at hov
  clear hap h h2 h3 h4 h5 h6
  obtain ⟨en0, ex0, path, flank, over, shunt⟩ := r
  dsimp only at *
  suffices H : isSecB c.sigs.length en0 = true ∧ nextOk c.jos (sgAt c.sigs en0).sec (sgAt c.sigs en0).fin = true ∧ 1 ≤ path.length ∧ path.length ≤ 8 ∧ (path.getD 0 default).sec = nextS c.jos (sgAt c.sigs en0).sec (sgAt c.sigs en0).fin ∧ (path.getD 0 default).inn = nextE c.jos (sgAt c.sigs en0).sec (sgAt c.sigs en0).fin ∧ (∀ x ∈ path, isSecB c.secs.length x.sec = true) ∧
      (∃ t, followM c.secs c.jos (nextS c.jos (sgAt c.sigs en0).sec (sgAt c.sigs en0).fin) (nextE c.jos (sgAt c.sigs en0).sec (sgAt c.sigs en0).fin) (posL c.secs path (List.replicate c.secs.length 0)) = path ++ t) ∧
      ∀ x ∈ locksM ⟨en0, ex0, path, flank, over, shunt⟩, isSecB c.secs.length x = true ∧ x ≠ (sgAt c.sigs en0).sec by
    obtain ⟨k1, k2, k3, k4, k5, k6, k7, k8, k9⟩ := H
    exact ⟨k1, k2, k3, k4, k5, k6, k7, k8, k9⟩
  generalize sgAt c.sigs en0 = sgn at *
  obtain ⟨ap, en⟩ := sgn
  dsimp only at *
  have hap' : ∀ x ∈ path, x.sec ≠ ap := fun x hx e => by
    have h0 := hpath x hx
    have hl := nat_of_sec h0
    have := once_not _ _ a6 x hx (by rw [List.length_set, List.length_replicate]; exact hl)
    rw [e] at this hl
    rw [seenAt_set _ _ _ (by rw [List.length_replicate]; exact hl)] at this
    simp at this
  have honce : onceB (List.replicate c.secs.length false) path = true := once_less _ _ _ (by rw [List.length_set]) (fun k hk => by rw [seen_none] at hk; cases hk) a6
  cases path with
  | nil => simp at a3
  | cons y rest =>
    have a5' := a5
    unfold hangsB at a5'
    simp only [Bool.and_eq_true, decide_eq_true_eq] at a5'
    obtain ⟨b1, b2, b3, _, _⟩ := a5'
    refine ⟨a1, b1, a3, a4, b2, b3, hpath, ?_, ?_⟩
    · have hend : isEndB c.secs (nextS c.jos ap en) (nextE c.jos ap en) = true := (next_back hj b1).2.2.2.2
      unfold followM
      rw [if_pos hend]
      refine follow_path _ _ _ _ _ _ ?_ a5 honce hpath (posL_at _ _ _ _ honce (fun x hx => by rw [List.length_replicate]; exact nat_of_sec (hpath x hx)) (by rw [List.length_replicate, List.length_replicate]))
      have := once_few _ _ honce (fun x hx => by rw [List.length_replicate]; exact nat_of_sec (hpath x hx))
      rw [unseen_new] at this
      omega
    · intro x hx
      have hx' : x ∈ rawLocks ⟨en0, ex0, y :: rest, flank, over, shunt⟩ := by
        unfold locksM at hx
        exact (sortM_mem _ _).1 ((compact_mem _ _).1 hx)
      unfold rawLocks at hx'
      dsimp only at hx'
      rcases List.mem_append.1 hx' with hx | hx
      · rw [hov] at hx
        split at hx
        · rename_i ho
          simp only [Bool.and_eq_true, Bool.not_eq_true'] at ho
          rw [List.mem_singleton] at hx
          subst hx
          exact ⟨ho.2.2.2.1, bar_ap _ _ _ ho.2.2.2.1 ho.2.2.2.2.2⟩
        · cases hx
      · rcases List.mem_append.1 hx with hx | hx
        · obtain ⟨z, hz, rfl⟩ := List.mem_map.1 hx
          exact ⟨hpath z hz, hap' z hz⟩
        · obtain ⟨z, hz, rfl⟩ := List.mem_map.1 hx
          rw [hfl] at hz
          unfold flankM at hz
          have hf : Fine c.secs.length (barM c.secs.length ap (y :: rest)) (flankO c.secs c.jos (y :: rest) (barM c.secs.length ap (y :: rest), [])) := fine_O _ ⟨barM_length _ _ _, fun _ h => h, fun d hd => by cases hd⟩
          obtain ⟨q1, q2⟩ := hf.2.2 z hz
          exact ⟨q1, bar_ap _ _ _ q1 q2⟩

theorem meet_both (a b : List Int) : meetB a b = meetB b a := by
  unfold meetB
  rw [Bool.eq_iff_iff]
  simp only [List.any_eq_true, List.contains_iff_mem]
  exact ⟨fun ⟨x, h1, h2⟩ => ⟨x, h2, h1⟩, fun ⟨x, h1, h2⟩ => ⟨x, h2, h1⟩⟩
theorem meet_self {a : List Int} (h : a ≠ []) : meetB a a = true := by
  cases a with
  | nil => exact absurd rfl h
  | cons x r =>
    unfold meetB
    rw [List.any_eq_true]
    exact ⟨x, List.mem_cons_self, by simp⟩
theorem locks_some {r : Rt} (h : 1 ≤ r.path.length) : locksM r ≠ [] := by
  intro e
  have : (r.path[0]'(by omega)).sec ∈ locksM r := by
    unfold locksM
    rw [compact_mem, sortM_mem]
    unfold rawLocks
    exact List.mem_append_right _ (List.mem_append_left _ (List.mem_map_of_mem (List.getElem_mem _)))
  rw [e] at this
  cases this
theorem clash_both (C : Cm) (a b : Int) : clashM C a b = clashM C b a := meet_both _ _
end Go.Proofs.YtkkohdmneognlaaGreatDoor
/- Plain mathematics: the document's check of a path is the program's, where joints and signals are right. -/
namespace Go.Proofs.YtkkohdmneognlaaGreatDoor

/-- the document's walk along a path: from an end, what was seen -/
def rpathL (l : List Sec) (js : List Jo) (sg : List Sg) (exit : Int) (shunt : Bool) : Int → Int → List Int → List St → Bool
  | _, _, _, [] => true
  | s, e, seen, x :: r => (nextOk js s e && (decide (nextS js s e = x.sec) && (decide (nextE js s e = x.inn) && !inL seen (nextS js s e)))) &&
      (posOk (rkind l (nextS js s e)) x.inn x.out && (!atL x.sec x.out (if r = [] then exit else -1) sg 0 && (!(shunt && !decide (lineOf l (nextS js s e).toNat = 0)) && rpathL l js sg exit shunt x.sec x.out (seen ++ [nextS js s e]) r)))
/-- the path's end -/
def rfinB (js : List Jo) (sg : List Sg) (exit : Int) (x : St) : Bool := if 0 ≤ exit then decide (sgAt sg exit = ⟨x.sec, x.out⟩) else !nextOk js x.sec x.out

theorem at_all (s e : Int) (sg : List Sg) : atL s e (-1) sg 0 = sg.contains ⟨s, e⟩ := by
  rw [Bool.eq_iff_iff, ← Bool.not_eq_false, atL_none, List.contains_iff_mem]
  constructor
  · intro h
    refine Classical.byContradiction fun hn => h fun k hk hs he => False.elim (hn ?_)
    have : sg[k] = ⟨s, e⟩ := by
      generalize sg[k] = a at *
      obtain ⟨a1, a2⟩ := a
      dsimp only at *
      rw [hs, he]
    rw [← this]
    exact List.getElem_mem hk
  · intro h hh
    obtain ⟨k, hk, e1⟩ := List.getElem_of_mem h
    have := hh k hk (by rw [e1]) (by rw [e1])
    omega
theorem at_last {js : List Jo} {sg : List Sg} (hs : sigsB js sg = true) {exit : Int} (hx : exit = -1 ∨ isSecB sg.length exit = true) {x : St} (h : rfinB js sg exit x = true) : atL x.sec x.out exit sg 0 = false := by
  rw [sigsB_iff] at hs
  rw [atL_none]
  intro k hk h1 h2
  have e : sg[k] = ⟨x.sec, x.out⟩ := by
    generalize sg[k] = a at *
    obtain ⟨a1, a2⟩ := a
    dsimp only at *
    rw [h1, h2]
  unfold rfinB at h
  rcases hx with rfl | hx
  · rw [if_neg (by decide)] at h
    have := hs.1 _ (List.getElem_mem hk)
    rw [e] at this
    dsimp only at this
    rw [this] at h
    cases h
  · obtain ⟨j, rfl, hj⟩ := isSecB_true hx
    rw [if_pos (by omega), sgAt_nat hj, decide_eq_true_eq] at h
    have hn := hs.2
    rw [List.nodup_iff_pairwise_ne, List.pairwise_iff_getElem] at hn
    rcases Nat.lt_trichotomy k j with hlt | rfl | hlt
    · exact absurd (e.trans h.symm) (hn k j hk hj hlt)
    · omega
    · exact absurd (h.trans e.symm) (hn j k hj hk hlt)
theorem fin_end {js : List Jo} {sg : List Sg} {exit : Int} (hx : exit = -1 ∨ isSecB sg.length exit = true) (x : St) : rfinB js sg exit x = endB js sg exit x := by
  unfold rfinB endB leaveS
  rcases hx with rfl | hx
  · rw [if_neg (by decide), if_pos rfl]
  · obtain ⟨j, rfl, hj⟩ := isSecB_true hx
    rw [if_pos (by omega), if_neg (by omega)]

theorem path_ref {l : List Sec} {js : List Jo} {sg : List Sg} {exit : Int} {shunt : Bool} (hj : jointsB l js = true) (hsg : sigsB js sg = true) (hx : exit = -1 ∨ isSecB sg.length exit = true) :
    ∀ (r : List St) (x : St) (s e : Int) (seen : List Int) (b : List Bool), b.length = l.length → (∀ k : Nat, k < l.length → seenAt b k = inL seen k) →
      ((rpathL l js sg exit shunt s e seen (x :: r) = true ∧ rfinB js sg exit ((x :: r).getLast (by simp)) = true) ↔
        (hangsB l js (nextOk js s e) (nextS js s e) (nextE js s e) (x :: r) = true ∧ onceB b (x :: r) = true ∧ clearB sg ((x :: r).dropLast) = true ∧ endB js sg exit ((x :: r).getLast (by simp)) = true ∧ (shunt && linedB l (x :: r)) = false))
  | r, x, s, e, seen, b, hbl, hsb => by
    rw [fin_end hx]
    rw [rpathL, hangsB, onceB, linedB]
    generalize hq : nextS js s e = q at *
    cases hok : nextOk js s e
    · simp
    · have hqs : isSecB l.length q = true := by rw [← hq]; exact next_in hj hok
      obtain ⟨m, rfl, hm⟩ := isSecB_true hqs
      have hrk : rkind l (m : Int) = kindOf l m := by unfold rkind; rw [hqs, if_pos rfl, Int.toNat_natCast]
      rw [hrk, Int.toNat_natCast]
      generalize nextE js s e = E at *
      obtain ⟨xs, xi, xo⟩ := x
      dsimp only
      by_cases h1 : (m : Int) = xs
      rotate_left
      · simp [h1, Ne.symm h1]
      subst h1
      by_cases h2 : E = xi
      rotate_left
      · simp [h2, Ne.symm h2]
      subst h2
      rw [Int.toNat_natCast, hsb m hm]
      cases hin : inL seen (m : Int)
      rotate_left
      · simp
      cases hpo : posOk (kindOf l m) E xo
      · simp
      cases r with
      | nil =>
        simp only [hangsB, onceB, rpathL, clearB, linedB, List.getLast_singleton, List.dropLast_singleton, if_true, decide_true, Bool.not_false, Bool.true_and, Bool.and_true, Bool.or_false, true_and]
        constructor
        · rintro ⟨h3, h4⟩
          rw [Bool.and_eq_true, Bool.not_eq_true'] at h3
          exact ⟨h4, by have := h3.2; cases shunt <;> cases hz : decide (lineOf l m = 0) <;> simp_all⟩
        · rintro ⟨h4, h5⟩
          refine ⟨?_, h4⟩
          have := at_last hsg hx (x := ⟨(m : Int), E, xo⟩) (by rw [fin_end hx]; exact h4)
          dsimp only at this
          rw [this, h5]
          rfl
      | cons y r' =>
        have ih := path_ref hj hsg hx (shunt := shunt) r' y (m : Int) xo (seen ++ [(m : Int)]) (b.set m true) (by rw [List.length_set]; exact hbl) (fun k hk => by
          rw [seenAt_set _ _ _ (by omega), hsb k hk, inL_append]
          have : inL [(m : Int)] k = decide (m = k) := by
            unfold inL
            by_cases e3 : m = k
            · simp [e3]
            · have : ¬ (m : Int) = (k : Int) := by omega
              simp [e3, this]
          rw [this, Bool.or_comm])
        rw [fin_end hx] at ih
        rw [List.getLast_cons (by simp), List.dropLast_cons_of_ne_nil (by simp), clearB, if_neg (by simp), at_all]
        generalize hA : rpathL l js sg exit shunt (m : Int) xo (seen ++ [(m : Int)]) (y :: r') = rp at *
        generalize hangsB l js (nextOk js (m : Int) xo) (nextS js (m : Int) xo) (nextE js (m : Int) xo) (y :: r') = hg at *
        generalize onceB (b.set m true) (y :: r') = oc at *
        generalize clearB sg (y :: r').dropLast = cl at *
        generalize endB js sg exit ((y :: r').getLast (by simp)) = en at *
        generalize linedB l (y :: r') = ln at *
        have hls : leaveS ⟨(m : Int), E, xo⟩ = ⟨(m : Int), xo⟩ := rfl
        rw [hls]
        generalize sg.contains (⟨(m : Int), xo⟩ : Sg) = ct at *
        generalize decide (lineOf l m = 0) = lz at *
        clear hA hin hpo hok hq
        cases rp <;> cases hg <;> cases oc <;> cases cl <;> cases en <;> cases ln <;> cases ct <;> cases lz <;> cases shunt <;> simp_all
end Go.Proofs.YtkkohdmneognlaaGreatDoor
/- The document's own Overlap. -/
namespace Go.Proofs.YtkkohdmneognlaaGreatDoor
open Go.RowKit

theorem rnone (w w' : World) (f : Fr (fun _ => False) w w') : ∃ A c, (Ending.returned (.slice none 0 0)) = .returned (.slice A ([] : List Int).length c) ∧ w'.ownsRow w.heap.size 3 1 (.slice A ([] : List Int).length c) ([] : List Int).length (([] : List Int).map (Value.int .i64)) ∧ Fr (fun _ => False) w w' :=
  ⟨none, 0, rfl, World.ownsRow_nil _ _ _ _, f⟩

set_option maxRecDepth 100000 in
set_option maxHeartbeats 8000000 in
theorem roverlap_any (C : Cm) (r : Ro) (w : World) (h : C.Ok w) (hr : r.Ok w) :
    Calls Tryz.prog 25 #[C.val, r.val] w (Nums w (overM C.l C.js C.sg r.rt)) := by
  have f0 := ((Fr.refl (fun _ => False) w).alloc (.cells C.arr 30)).alloc (.cells r.cells.toArray 43)
  have isC := (Is.new w 30 C.arr).alloc (.cells r.cells.toArray 43)
  have isr := Is.new (w.alloc (.cells C.arr 30)) 43 r.cells.toArray
  have hrb : (w.alloc (.cells C.arr 30)).heap.size = w.heap.size + 1 := by simp
  rw [hrb] at isr
  have hb1 := hr.b1
  have hb3 := h.b3
  have hb2 := h.b2
  have hdef : overM C.l C.js C.sg r.rt = if roverOk C.l C.js C.sg r.rt = true then [nextS C.js (sgAt C.sg r.exit).sec (sgAt C.sg r.exit).fin] else [] := by
    unfold overM
    rw [over_ref]
    rfl
  rw [hdef]
  clear hdef
  unfold roverOk
  have e1 : r.rt.shunt = r.shunt := rfl
  have e2 : r.rt.exit = r.exit := rfl
  have e3 : r.rt.entry = r.entry := rfl
  have e4 : r.rt.path = r.path := rfl
  rw [e1, e2, e3, e4]
  clear e1 e2 e3 e4
  unfold Ro.cells at f0 isC isr
  unfold Cm.arr at f0 isC isr
  unfold Cm.val Ro.val Cm.arr
  obtain ⟨r0, r1, r2, r3, r4, r5⟩ := ro_cells isr
  cases hsh : r.shunt
  rotate_left
  · rw [hsh] at f0 isC isr r5
    rw [Bool.not_true, Bool.false_and, if_neg (by decide)]
    clear hsh
    go_enter Tryz.func25, Tryz.ntmps25
    go_wp2_with fail
    go_ret
    exact rnone _ _ f0
  rw [hsh] at f0 isC isr r0 r1 r2 r3 r4 r5
  rw [Bool.not_false, Bool.true_and]
  clear hsh
  generalize hT : (if (isSecB C.sg.length r.exit && _) = true then _ else _) = T
  have HT := Lib.hid hT
  clear hT
  have HS : Hid (∀ W, Fr (fun _ => False) ((w.alloc (.cells #[.slice C.A1 C.l.length C.c1, .slice C.A2 C.js.length C.c2, .slice C.A3 C.sg.length C.c3, .slice C.A4 C.cr.length C.c4, .slice C.A5 C.rs.length C.c5, .int .i64 C.tm.age, .int .i64 C.tm.brake, .int .i64 C.tm.hold, .int .i64 C.tm.budget] 30)).alloc (.cells #[.int .i64 r.entry, .int .i64 r.exit, .slice r.a1 r.path.length r.c1, .slice r.a2 r.flank.length r.c2, .slice r.a3 r.over.length r.c3, .bool false] 43)) W → W.cell? ⟨w.heap.size, 0, none⟩ = some (.slice C.A1 C.l.length C.c1) ∧ W.cell? ⟨w.heap.size, 1, none⟩ = some (.slice C.A2 C.js.length C.c2) ∧ W.cell? ⟨w.heap.size, 2, none⟩ = some (.slice C.A3 C.sg.length C.c3) ∧
      W.cell? ⟨w.heap.size + 1, 0, none⟩ = some (.int .i64 r.entry) ∧ W.cell? ⟨w.heap.size + 1, 1, none⟩ = some (.int .i64 r.exit) ∧ W.cell? ⟨w.heap.size + 1, 2, none⟩ = some (.slice r.a1 r.path.length r.c1)) := Lib.hid fun W fw =>
    ⟨(isC.fr fw id).cell 0, (isC.fr fw id).cell 1, (isC.fr fw id).cell 2, (isr.fr fw id).cell 0, (isr.fr fw id).cell 1, (isr.fr fw id).cell 2⟩
  have HF0 := Lib.hid f0
  obtain ⟨c0, c1, c2, -, -, -⟩ := HS.out _ (Fr.refl _ _)
  go_enter Tryz.func25, Tryz.ntmps25
  go_upto_region 1 with (fail)
  generalize hw0 : (w.alloc (.cells #[.slice C.A1 C.l.length C.c1, .slice C.A2 C.js.length C.c2, .slice C.A3 C.sg.length C.c3, .slice C.A4 C.cr.length C.c4, .slice C.A5 C.rs.length C.c5, .int .i64 C.tm.age, .int .i64 C.tm.brake, .int .i64 C.tm.hold, .int .i64 C.tm.budget] 30)).alloc (.cells #[.int .i64 r.entry, .int .i64 r.exit, .slice r.a1 r.path.length r.c1, .slice r.a2 r.flank.length r.c2, .slice r.a3 r.over.length r.c3, .bool false] 43) = w0 at *
  clear hw0 isC isr r3 r4 f0
  cases hex : isSecB C.sg.length r.exit
  · obtain rfl : [] = T := by rw [← HT.out, hex, Bool.false_and, if_neg (by decide)]
    rcases not_sec hex with hn | ⟨j, hj, hle⟩
    · have d0 : decide (r.exit < 0) = true := by simpa using hn
      clear hex
      go_wp2_with fail
      go_ret
      exact rnone _ _ HF0.out
    · have d0 : decide ((j : Int) < 0) = false := by rw [decide_eq_false_iff_not]; omega
      have d1 : decide (C.sg.length ≤ j) = true := by simpa using hle
      have d2 : decide ((C.sg.length : Int) ≤ (j : Int)) = true := by rw [decide_eq_true_eq]; omega
      rw [hj] at r1
      clear hex
      go_wp2_with fail
      go_ret
      exact rnone _ _ HF0.out
  obtain ⟨e, he, hel⟩ := isSecB_true hex
  have hT := HT.out
  rw [hex, Bool.true_and, he, sgAt_nat hel] at hT
  clear HT
  rw [he] at r1
  obtain ⟨gs, og, hA3, s0, s1⟩ := rd_sg (h.sigs.fr HF0.out fun _ _ => id) hel
  generalize C.sg[e] = g at *
  have HT := Lib.hid hT
  clear hT
  have KN := fun W (f : Fr (fun _ => False) w W) => rnext_any (c := C.c2) g.sec g.fin W (h.jos.fr f fun _ _ => id) (by omega)
  have d0 : decide ((e : Int) < 0) = false := by rw [decide_eq_false_iff_not]; omega
  have d1 : decide (C.sg.length ≤ e) = false := by rw [decide_eq_false_iff_not]; omega
  have d2 : decide ((C.sg.length : Int) ≤ (e : Int)) = false := by rw [decide_eq_false_iff_not]; omega
  have i1 : (0 : Int) ≤ (e : Int) := by omega
  have i2 : (e : Int) < (C.sg.length : Int) := by omega
  have HA3 := Lib.hid hA3
  rw [hA3] at c2
  clear hA3 he hex
  go_upto_region 4 with (fail)
  have fx := (Fr.refl (fun _ => False) w0).alloc (.cells #[.int .i64 g.sec, .int .i64 g.fin] 56)
  have isx := Is.new w0 56 #[.int .i64 g.sec, .int .i64 g.fin]
  clear c0 c1 c2 r0 r1 r2 r5 s0 s1 d0 d1 d2 i1 i2
  generalize w0.alloc _ = w3 at *
  generalize w0.heap.size = xb at *
  obtain ⟨-, c1, -, -, -, -⟩ := HS.out _ fx
  have x0 : w3.cell? ⟨xb, 0, none⟩ = some (.int .i64 g.sec) := isx.cell 0
  have x1 : w3.cell? ⟨xb, 1, none⟩ = some (.int .i64 g.fin) := isx.cell 1
  go_wp2_with fail
  refine (KN _ (fr_nil HF0.out fx)).mono ?_
  clear KN c1 x0 x1 isx
  rintro _ w4 ⟨rfl, f4⟩
  have F4 := fr_nil fx f4
  clear fx f4
  go_upto_region 6 with (fail)
  go_cut [52] from 42 to 53 (fun v52 wx => v52 = .bool (isSecB C.sg.length r.entry) ∧ wx = w4)
  case first =>
    obtain ⟨-, -, c2, r0, -, -⟩ := HS.out _ F4
    cases hen : isSecB C.sg.length r.entry
    · rcases not_sec hen with hn | ⟨j, hj, hle⟩
      · have d0 : decide (0 ≤ r.entry) = false := by rw [decide_eq_false_iff_not]; omega
        have HEN := Lib.hid hen
        clear hen
        go_wp2_with fail
        go_meet
        exact ⟨by rw [HEN.out], rfl⟩
      · have d0 : decide ((0 : Int) ≤ (j : Int)) = true := by rw [decide_eq_true_eq]; omega
        have d1 : decide (j < C.sg.length) = false := by rw [decide_eq_false_iff_not]; omega
        have d2 : decide ((j : Int) < (C.sg.length : Int)) = false := by rw [decide_eq_false_iff_not]; omega
        rw [hj] at r0
        have HEN := Lib.hid hen
        clear hen hj
        go_wp2_with fail
        go_meet
        exact ⟨by rw [HEN.out], rfl⟩
    · obtain ⟨j, hj, hjl⟩ := isSecB_true hen
      rw [hj] at r0
      have d0 : decide ((0 : Int) ≤ (j : Int)) = true := by rw [decide_eq_true_eq]; omega
      have d1 : decide (j < C.sg.length) = true := by rw [decide_eq_true_eq]; omega
      have d2 : decide ((j : Int) < (C.sg.length : Int)) = true := by rw [decide_eq_true_eq]; omega
      have HEN := Lib.hid hen
      clear hen hj
      go_wp2_with fail
      go_meet
      exact ⟨by rw [HEN.out], rfl⟩
  case rest =>
    obtain ⟨rfl, rfl⟩ := hcut
    generalize hen0 : isSecB C.sg.length r.entry = bb at *
    have HEN := Lib.hid hen0
    clear hen0
    go_upto_if 52 with (fail)
    go_cut [9] from 53 to 60 (fun v9 wx => v9 = .int .i64 (apM C.sg r.entry) ∧ wx = wc)
    case first =>
      obtain ⟨-, -, c2, r0, -, -⟩ := HS.out _ F4
      cases bb
      · have hen := HEN.out
        have hap : apM C.sg r.entry = -1 := by unfold apM; rw [hen, if_neg (by decide)]
        have HAP := Lib.hid hap
        clear hap hen
        go_wp2_with fail
        go_meet
        exact ⟨by rw [HAP.out], rfl⟩
      · have hen := HEN.out
        have hap : apM C.sg r.entry = (sgAt C.sg r.entry).sec := by unfold apM; rw [hen, if_pos rfl]
        obtain ⟨j, hj, hjl⟩ := isSecB_true hen
        have hap2 : apM C.sg r.entry = C.sg[j].sec := by rw [hap, hj, sgAt_nat hjl]
        obtain ⟨gt, ot, hA3, t0, -⟩ := rd_sg (h.sigs.fr (fr_nil HF0.out F4) fun _ _ => id) hjl
        generalize C.sg[j].sec = sc at *
        rw [hj] at r0
        rw [hA3] at c2
        have i1 : (0 : Int) ≤ (j : Int) := by omega
        have i2 : (j : Int) < (C.sg.length : Int) := by omega
        have HAP := Lib.hid hap2
        clear hap hj hA3 hap2 hen
        go_wp2_with fail
        go_meet
        exact ⟨by rw [HAP.out], rfl⟩
    case rest =>
      obtain ⟨rfl, rfl⟩ := hcut
      generalize apM C.sg r.entry = ap at *
      have FW := fr_nil HF0.out F4
      obtain ⟨c0, -, -, -, -, r2⟩ := HS.out _ F4
      have hT := HT.out
      clear HT
      generalize nextS C.js g.sec g.fin = q at *
      cases hok : nextOk C.js g.sec g.fin
      · obtain rfl : [] = T := by rw [← hT, hok]; rfl
        clear hok
        go_wp2_with fail
        go_ret
        exact rnone _ _ FW
      rw [hok, Bool.true_and] at hT
      clear hok
      cases hq : isSecB C.l.length q
      · obtain rfl : [] = T := by rw [← hT, hq]; rfl
        rcases not_sec hq with hn | ⟨j, hj, hle⟩
        · have d0 : decide (q < 0) = true := by simpa using hn
          clear hq
          go_wp2_with fail
          go_ret
          exact rnone _ _ FW
        · subst hj
          have d0 : decide ((j : Int) < 0) = false := by rw [decide_eq_false_iff_not]; omega
          have d1 : decide (C.l.length ≤ j) = true := by simpa using hle
          have d2 : decide ((C.l.length : Int) ≤ (j : Int)) = true := by rw [decide_eq_true_eq]; omega
          clear hq
          go_wp2_with fail
          go_ret
          exact rnone _ _ FW
      obtain ⟨m, rfl, hml⟩ := isSecB_true hq
      rw [hq, Bool.true_and, Int.toNat_natCast, lineOf_at hml] at hT
      clear hq
      have hln : Hid (∀ W, Fr (fun _ => False) wc W → ∃ gz oz, C.A1 = some ⟨gz, oz, none⟩ ∧ W.cell? ⟨gz, oz + m * 3 + 2, none⟩ = some (.int .i64 C.l[m].line)) := Lib.hid fun W fw => by
        obtain ⟨gz, oz, e, _, _, z2⟩ := rd_sec (h.secs.fr (fr_nil FW fw) fun _ _ => id) hml
        exact ⟨gz, oz, e, z2⟩
      generalize C.l[m].line = ln at *
      have d0 : decide ((m : Int) < 0) = false := by rw [decide_eq_false_iff_not]; omega
      have d1 : decide (C.l.length ≤ m) = false := by rw [decide_eq_false_iff_not]; omega
      have d2 : decide ((C.l.length : Int) ≤ (m : Int)) = false := by rw [decide_eq_false_iff_not]; omega
      have i1 : (0 : Int) ≤ (m : Int) := by omega
      have i2 : (m : Int) < (C.l.length : Int) := by omega
      have KS := secsL_any (c := r.c1) r.path _ (hr.path.fr FW fun _ _ => id) hb1
      rw [secsL_map] at KS
      have hse : secsOf r.path = r.path.map St.sec := rfl
      rw [hse] at hT
      have hpl : (r.path.map St.sec).length ≤ 9223372036854775807 := by rw [List.length_map]; omega
      generalize r.path.map St.sec = ps at *
      have HT := Lib.hid hT
      clear hT
      go_wp2_with fail
      refine KS.mono ?_
      clear KS r2 c0
      rintro _ w5 ⟨A5, c5, rfl, own5, f5⟩
      go_wp2_with fail
      refine (rin_any (c := c5) ps (m : Int) w5 (wide_rd own5) hpl).mono ?_
      clear own5
      rintro _ w6 ⟨rfl, f6⟩
      have f46 := fr_nil f5 f6
      have F6 := fr_nil FW f46
      obtain ⟨gz, oz, hA1, z2⟩ := hln.out _ f46
      obtain ⟨c0, -, -, -, -, -⟩ := HS.out _ (fr_nil F4 f46)
      have hT := HT.out
      clear HT hln f5 f6
      rw [hA1] at c0
      clear hA1
      cases hin : inL ps (m : Int)
      rotate_left
      · obtain rfl : [] = T := by rw [← hT, hin]; rfl
        clear hin
        go_wp2_with fail
        go_ret
        exact rnone _ _ F6
      rw [hin] at hT
      clear hin
      by_cases hma : (m : Int) = ap
      · obtain rfl : [] = T := by rw [← hT, hma]; simp
        have e1 : ((m : Int) == ap) = true := by simpa using hma
        clear hma hT
        go_wp2_with fail
        go_ret
        exact rnone _ _ F6
      have e1 : ((m : Int) == ap) = false := by rw [beq_eq_false_iff_ne]; exact hma
      by_cases hl0 : ln = 0
      rotate_left
      · obtain rfl : [] = T := by rw [← hT]; simp [hl0]
        have e2 : (ln != 0) = true := by simpa [bne_iff_ne] using hl0
        clear hma hl0 hT
        go_wp2_with fail
        go_ret
        exact rnone _ _ F6
      · obtain rfl : [(m : Int)] = T := by rw [← hT]; simp [hl0, hma]
        have e2 : (ln != 0) = false := by simp [hl0]
        clear hma hT
        subst hl0
        go_wp2_with fail
        go_ret
        exact ⟨_, _, rfl, own_one _ _ _ _ F6.size, F6.alloc _⟩
end Go.Proofs.YtkkohdmneognlaaGreatDoor

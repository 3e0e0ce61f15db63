/- Contracts and plain mathematics of earlier stages: Sigs, Hangs, Once, Ends2, Endr. -/
import Derived.Test.YtnnacdkijeoeoaaKg
import Derived.Laws.StructEq
namespace Go.Proofs.Ytnnacdkijeoeoaa
open Go.RowKit

def cellsI (l : List Int) : List Value := l.flatMap fun x => [.int .i64 x]
theorem cellsI_map (l : List Int) : cellsI l = l.map (Value.int .i64) := by
  induction l with
  | nil => rfl
  | cons x r ih =>
    have e : cellsI (x :: r) = .int .i64 x :: cellsI r := rfl
    rw [e, ih, List.map_cons]
theorem cellsI_length (l : List Int) : (cellsI l).length = l.length * 1 := by rw [cellsI_map, List.length_map, Nat.mul_one]

theorem behind_sgs {w : World} {A : Option Addr} {c : Nat} {js : List Sg} (h : Rd w A (cellsG js)) (hc : js.length ≤ c) (i : Nat) (hi : i < js.length) :
    ∃ A2 c2, (∀ W, (Instr.slice 24 (.slice A js.length c) (some (.int .i64 ((i : Int) + 1))) none none).run Try.prog W = .ok (.slice A2 (js.drop (i + 1)).length c2) W) ∧ Rd w A2 (cellsG (js.drop (i + 1))) := by
  obtain ⟨g, o, rfl, hg, hcell⟩ := h (by rw [cellsG_length]; omega)
  have hcut : cellsG (js.drop (i + 1)) = (cellsG js).drop ((i + 1) * 2) := by
    have e : cellsG js = cellsG (js.take (i + 1)) ++ cellsG (js.drop (i + 1)) := by
      unfold cellsG
      rw [← List.flatMap_append, List.take_append_drop]
    rw [e, List.drop_append_of_le_length (by rw [cellsG_length, List.length_take]; omega), List.drop_of_length_le (l := cellsG (js.take (i + 1))) (by rw [cellsG_length, List.length_take]; omega), List.nil_append]
  rw [List.length_drop]
  by_cases hc1 : c = i + 1
  · subst hc1
    have hl : js.length = i + 1 := by omega
    refine ⟨some ⟨g, o, none⟩, 0, fun W => ?_, fun h0 => by rw [cellsG_length, List.length_drop] at h0; omega⟩
    rw [hl, Nat.sub_self]
    have h0 : ¬ ((i : Int) + 1 < 0) := by omega
    have h2 : (((i : Int) + 1)).toNat = i + 1 := by omega
    go_simp
  · refine ⟨some ⟨g, o + (i + 1) * 2, none⟩, c - (i + 1), fun W => ?_, fun h0 => ⟨g, o + (i + 1) * 2, rfl, hg, fun j u hu => ?_⟩⟩
    · have h1 : ((i : Int) + 1) ≤ (js.length : Int) := by omega
      have h2 : ((js.length : Nat) : Int) ≤ (c : Int) := by omega
      have h0 : ¬ ((i : Int) + 1 < 0) := by omega
      have h4 : (((i : Int) + 1)).toNat = i + 1 := by omega
      go_simp
    · rw [hcut, List.getElem?_drop] at hu
      have := hcell _ u hu
      rw [Nat.add_assoc]
      exact this

theorem behind_is {w : World} {A : Option Addr} {c : Nat} {js : List Int} (h : Rd w A (cellsI js)) (hc : js.length ≤ c) (i : Nat) (hi : i < js.length) :
    ∃ A2 c2, (∀ W, (Instr.slice 25 (.slice A js.length c) (some (.int .i64 ((i : Int) + 1))) none none).run Try.prog W = .ok (.slice A2 (js.drop (i + 1)).length c2) W) ∧ Rd w A2 (cellsI (js.drop (i + 1))) := by
  obtain ⟨g, o, rfl, hg, hcell⟩ := h (by rw [cellsI_length]; omega)
  have hcut : cellsI (js.drop (i + 1)) = (cellsI js).drop ((i + 1) * 1) := by
    have e : cellsI js = cellsI (js.take (i + 1)) ++ cellsI (js.drop (i + 1)) := by
      unfold cellsI
      rw [← List.flatMap_append, List.take_append_drop]
    rw [e, List.drop_append_of_le_length (by rw [cellsI_length, List.length_take]; omega), List.drop_of_length_le (l := cellsI (js.take (i + 1))) (by rw [cellsI_length, List.length_take]; omega), List.nil_append]
  rw [List.length_drop]
  by_cases hc1 : c = i + 1
  · subst hc1
    have hl : js.length = i + 1 := by omega
    refine ⟨some ⟨g, o, none⟩, 0, fun W => ?_, fun h0 => by rw [cellsI_length, List.length_drop] at h0; omega⟩
    rw [hl, Nat.sub_self]
    have h0 : ¬ ((i : Int) + 1 < 0) := by omega
    have h2 : (((i : Int) + 1)).toNat = i + 1 := by omega
    go_simp
  · refine ⟨some ⟨g, o + (i + 1) * 1, none⟩, c - (i + 1), fun W => ?_, fun h0 => ⟨g, o + (i + 1) * 1, rfl, hg, fun j u hu => ?_⟩⟩
    · have h1 : ((i : Int) + 1) ≤ (js.length : Int) := by omega
      have h2 : ((js.length : Nat) : Int) ≤ (c : Int) := by omega
      have h0 : ¬ ((i : Int) + 1 < 0) := by omega
      have h4 : (((i : Int) + 1)).toNat = i + 1 := by omega
      go_simp
    · rw [hcut, List.getElem?_drop] at hu
      have := hcell _ u hu
      rw [Nat.add_assoc]
      exact this


set_option maxHeartbeats 4000000 in
theorem signals_any (C : Cm) (w : World) (h : C.Ok w) :
    Calls Try.prog 34 #[C.val] w fun e w' => e = .returned (.bool (decide (C.sg.length ≤ 12) && sigsB C.js C.sg)) ∧ Fr (fun _ => False) w w' := by
  by_cases h12 : C.sg.length ≤ 12
  · rw [show decide (C.sg.length ≤ 12) = true by simp [h12], Bool.true_and]
    generalize hT : sigsB C.js C.sg = T
    have HT := Lib.hid hT
    have e12 : decide ((12 : Int) < (C.sg.length : Int)) = false := by simp; omega
    have KJ := fun s e W (f : Fr (fun _ => False) w W) => joined_any C s e W (h.fr f)
    clear hT
    unfold Cm.val Cm.arr at *
    go_enter Try.func34, Try.ntmps34
    go_wp2_with fail
    go_loopw [14] (fun i wr => ∃ k : Nat, k ≤ C.sg.length ∧ i = .int .i64 (k : Nat) ∧ sigsB C.js (C.sg.drop k) = T ∧ Is wr w.heap.size 97 C.arr ∧ Fr (fun _ => False) w wr) (fun i _ => C.sg.length - (intOf i).toNat)
    case atStart => exact ⟨0, Nat.zero_le _, rfl, HT.out, Is.new _ _ _, (Fr.refl _ _).alloc _⟩
    case round =>
      clear HT
      obtain ⟨k, hk, rfl, hT, isp, fr⟩ := hrel
      by_cases hlt : k < C.sg.length
      · have rsg := h.sigs.fr fr fun _ _ => id
        obtain ⟨g, o, hA, q0, q1⟩ := rd_sg rsg hlt
        obtain ⟨A2, c2, hsl, r2⟩ := behind_sgs rsg h.l3 k hlt
        have kl : (C.sg.drop (k + 1)).length ≤ 9223372036854775807 := by rw [List.length_drop]; omega
        have KC := fun W (f : Fr (fun _ => False) wr W) => sgcontains_any (c := c2) C.sg[k] W (r2.fr f fun _ _ => id) kl
        have KJ := KJ C.sg[k].sec C.sg[k].fin
        rw [List.drop_eq_getElem_cons hlt, sigsB] at hT
        generalize hrest : C.sg.drop (k + 1) = rest at *
        have HR := Lib.hid hrest
        clear hrest
        generalize C.sg[k] = x at *
        have f0 := fr.alloc (.cells #[.int .i64 x.sec, .int .i64 x.fin] 77)
        have f1 : Fr (fun _ => False) wr (wr.alloc (.cells #[.int .i64 x.sec, .int .i64 x.fin] 77)) := (Fr.refl _ _).alloc _
        have isp1 := isp.alloc (.cells #[.int .i64 x.sec, .int .i64 x.fin] 77)
        have isv := Is.new wr 77 #[.int .i64 x.sec, .int .i64 x.fin]
        have i1 : (0 : Int) ≤ (k : Int) + 1 := by omega
        have i2 : IntKind.i64.wrap ((k : Int) + 1) = (k : Int) + 1 := IntWalk.i64_in _ (by omega)
        have HI2 := Lib.hid i2
        clear i2
        rw [hA]
        have HA := Lib.hid hA
        clear hA
        obtain ⟨p0, p1, p2, p3, p4, p5, p6, p7, p8⟩ := plan_cells isp1
        have P0 := cell_fro p0
        have P1 := cell_fro p1
        have P2 := cell_fro p2
        have P3 := cell_fro p3
        have P4 := cell_fro p4
        have P5 := cell_fro p5
        have P6 := cell_fro p6
        have P7 := cell_fro p7
        have P8 := cell_fro p8
        have V0 := cell_fro (isv.cell 0)
        have V1 := cell_fro (isv.cell 1)
        clear p0 p1 p2 p3 p4 p5 p6 p7 p8
        cases hn : nextOk C.js x.sec x.fin
        · rw [hn] at hT KJ
          rw [Bool.false_and] at hT
          subst hT
          clear hn KC
          go_upto_region 6 with (fail)
          generalize hW : (wr.alloc (.cells #[.int .i64 x.sec, .int .i64 x.fin] 77)) = W0 at *
          refine region_fro (by kernel_rfl) (by kernel_rfl) ?_
          repeat (go_big_quiet_step ((go_at_call 54; exact call_fro (KJ _ (fr_nil f0 (Fro.f _))))))
          refine wpQuiet_nil ?_
          rintro _ ⟨⟨w6, f6⟩, rfl⟩
          go_wp2_with fail
          go_ret
          exact ⟨rfl, fr_nil f0 f6⟩
        · rw [hn] at hT KJ
          rw [Bool.true_and] at hT
          cases hc : rest.contains x
          all_goals
            rw [hc] at hT KC
            first | rw [Bool.not_false, Bool.true_and] at hT | (rw [Bool.not_true, Bool.false_and] at hT; subst hT)
            try (have HT := Lib.hid hT; clear hT)
            clear hn hc
            go_upto_region 6 with (fail)
            generalize hW : (wr.alloc (.cells #[.int .i64 x.sec, .int .i64 x.fin] 77)) = W0 at *
            have i3 := HI2.out
            refine region_fro (by kernel_rfl) (by kernel_rfl) ?_
            repeat (go_big_quiet_step (first | (go_at_call 54; exact call_fro (KJ _ (fr_nil f0 (Fro.f _)))) | (go_at_call 55; exact call_fro (KC _ (fr_nil f1 (Fro.f _))))))
            refine wpQuiet_nil ?_
            rintro _ ⟨⟨w6, f6⟩, rfl⟩
            clear i3
            go_wp2_with fail
          · go_roundw
            case rel => exact ⟨k + 1, by omega, by go_num, by rw [HR.out]; exact HT.out, isp1.fr f6 id, fr_nil f0 f6⟩
            case measure => simp [intOf]; omega
          · go_ret
            exact ⟨rfl, fr_nil f0 f6⟩
      · rw [List.drop_eq_nil_of_le (by omega)] at hT
        obtain rfl : T = true := hT.symm
        go_wp2_with fail
        go_ret
        exact ⟨rfl, fr⟩
  · rw [show decide (C.sg.length ≤ 12) = false by simp [h12], Bool.false_and]
    have e12 : decide ((12 : Int) < (C.sg.length : Int)) = true := by simp; omega
    unfold Cm.val Cm.arr
    clear h12
    go_enter Try.func34, Try.ntmps34
    go_wp2_with fail
    go_ret
    exact ⟨rfl, (Fr.refl _ _).alloc _⟩

set_option maxHeartbeats 4000000 in
theorem crossings_any (C : Cm) (w : World) (h : C.Ok w) :
    Calls Try.prog 35 #[C.val] w fun e w' => e = .returned (.bool (decide (C.cr.length ≤ 4) && crsB C.l C.cr)) ∧ Fr (fun _ => False) w w' := by
  by_cases h12 : C.cr.length ≤ 4
  · rw [show decide (C.cr.length ≤ 4) = true by simp [h12], Bool.true_and]
    generalize hT : crsB C.l C.cr = T
    have HT := Lib.hid hT
    have e12 : decide ((4 : Int) < (C.cr.length : Int)) = false := by simp; omega
    have KS := fun s W => hass_any (A := C.A1) (c := C.c1) (n := C.l.length) s W
    clear hT
    unfold Cm.val
    go_enter Try.func35, Try.ntmps35
    unfold Cm.arr
    go_wp2_with fail
    go_loopw [14] (fun i wr => ∃ k : Nat, k ≤ C.cr.length ∧ i = .int .i64 (k : Nat) ∧ crsB C.l (C.cr.drop k) = T ∧ Is wr w.heap.size 97 C.arr ∧ Fr (fun _ => False) w wr) (fun i _ => C.cr.length - (intOf i).toNat)
    case atStart => exact ⟨0, Nat.zero_le _, rfl, HT.out, Is.new _ _ _, (Fr.refl _ _).alloc _⟩
    case round =>
      clear HT
      obtain ⟨k, hk, rfl, hT, isp, fr⟩ := hrel
      by_cases hlt : k < C.cr.length
      · have rcr := h.crs.fr fr fun _ _ => id
        obtain ⟨g, o, hA, q0⟩ := rd_int rcr hlt
        obtain ⟨A2, c2, hsl, r2⟩ := behind_is (js := C.cr) (by rw [cellsI_map]; exact rcr) h.l4 k hlt
        rw [cellsI_map] at r2
        have kl : (C.cr.drop (k + 1)).length ≤ 9223372036854775807 := by rw [List.length_drop]; omega
        have KC := fun W (f : Fr (fun _ => False) wr W) => icontains_any (c := c2) C.cr[k] W (r2.fr f fun _ _ => id) kl
        have KS := KS C.cr[k]
        rw [List.drop_eq_getElem_cons hlt, crsB] at hT
        generalize hrest : C.cr.drop (k + 1) = rest at *
        have HR := Lib.hid hrest
        clear hrest
        generalize C.cr[k] = x at *
        rw [hA]
        have HA := Lib.hid hA
        clear hA rcr r2
        obtain ⟨p0, p1, p2, p3, p4, p5, p6, p7, p8⟩ := plan_cells isp
        cases hs : isSecB C.l.length x
        · rw [hs] at hT KS
          rw [Bool.false_and] at hT
          subst hT
          clear hs KC
          go_wp2_with fail
          refine (KS _).mono ?_
          rintro e w2 ⟨rfl, rfl⟩
          go_wp2_with fail
          go_ret
          exact ⟨rfl, fr⟩
        · rw [hs] at hT KS
          obtain ⟨j, rfl, hj⟩ := isSecB_true hs
          rw [Bool.true_and, Int.toNat_natCast, lineOf_at hj] at hT
          obtain ⟨g1, o1, hA1, _, _, s2⟩ := rd_sec (h.secs.fr fr fun _ _ => id) hj
          generalize C.l[j].line = ln at *
          rw [hA1] at p0 KS
          have HA1 := Lib.hid hA1
          clear hA1 hs
          by_cases hl : ln = 0
          · subst hl
            rw [show decide ((0 : Int) = 0) = true from rfl, Bool.true_and] at hT
            cases hc : rest.contains (j : Int)
            all_goals
              rw [hc] at hT KC
              first | rw [Bool.not_false, Bool.true_and] at hT | (rw [Bool.not_true, Bool.false_and] at hT; subst hT)
              try (have HT := Lib.hid hT; clear hT)
              clear hc
              go_wp2_with fail
              refine (KS _).mono ?_
              rintro e w2 ⟨rfl, rfl⟩
              go_wp2_with fail
              refine (KC _ (Fr.refl _ _)).mono ?_
              rintro e w2 ⟨rfl, rfl⟩
              go_wp2_with fail
            · go_roundw
              case rel => exact ⟨k + 1, by omega, by go_num, by rw [HR.out]; exact HT.out, isp, fr⟩
              case measure => simp [intOf]; omega
            · go_ret
              exact ⟨rfl, fr⟩
          · have e0 : (ln != 0) = true := by simp [hl]
            rw [show decide (ln = 0) = false by simp [hl], Bool.false_and] at hT
            subst hT
            clear hl KC
            go_wp2_with fail
            refine (KS _).mono ?_
            rintro e w2 ⟨rfl, rfl⟩
            go_wp2_with fail
            go_ret
            exact ⟨rfl, fr⟩
      · rw [List.drop_eq_nil_of_le (by omega)] at hT
        obtain rfl : T = true := hT.symm
        go_wp2_with fail
        go_ret
        exact ⟨rfl, fr⟩
  · rw [show decide (C.cr.length ≤ 4) = false by simp [h12], Bool.false_and]
    have e12 : decide ((4 : Int) < (C.cr.length : Int)) = true := by simp; omega
    unfold Cm.val Cm.arr
    clear h12
    go_enter Try.func35, Try.ntmps35
    go_wp2_with fail
    go_ret
    exact ⟨rfl, (Fr.refl _ _).alloc _⟩

theorem timing_any (t : Tm) (w : World) : Calls Try.prog 37 #[.agg #[.int .i64 t.age, .int .i64 t.brake, .int .i64 t.hold, .int .i64 t.budget]] w fun e w' => e = .returned (.bool (timeB t)) ∧ Fr (fun _ => False) w w' := by
  obtain ⟨age, brake, hold, budget⟩ := t
  unfold timeB
  dsimp only
  have K1 := fun W => within_any age 1 8 W
  cases h1 : (decide (1 ≤ age) && decide (age ≤ 8))
  · rw [h1] at K1
    rw [Bool.false_and]
    clear h1
    go_enter Try.func37, Try.ntmps37
    go_wp2_with fail
    refine (K1 _).mono ?_
    rintro e w2 ⟨rfl, rfl⟩
    go_wp2_with fail
    go_ret
    exact ⟨rfl, (Fr.refl _ _).alloc _⟩
  · rw [h1] at K1
    rw [Bool.true_and]
    have b1 : 1 ≤ age ∧ age ≤ 8 := by simpa using h1
    obtain ⟨b1, b2⟩ := b1
    have K2 := fun W => within_any brake 0 8 W
    cases h2 : (decide (0 ≤ brake) && decide (brake ≤ 8))
    · rw [h2] at K2
      rw [Bool.false_and]
      clear h1 h2
      go_enter Try.func37, Try.ntmps37
      go_wp2_with fail
      refine (K1 _).mono ?_
      rintro e w2 ⟨rfl, rfl⟩
      clear K1
      go_wp2_with fail
      refine (K2 _).mono ?_
      rintro e w2 ⟨rfl, rfl⟩
      go_wp2_with fail
      go_ret
      exact ⟨rfl, (Fr.refl _ _).alloc _⟩
    · rw [h2] at K2
      rw [Bool.true_and]
      have b3 : 0 ≤ brake ∧ brake ≤ 8 := by simpa using h2
      obtain ⟨b3, b4⟩ := b3
      have K3 := fun W => within_any hold (age + brake + 1) 40 W
      have K4 := fun W => within_any budget 1 1000000 W
      cases h3 : (decide (age + brake + 1 ≤ hold) && decide (hold ≤ 40))
      · rw [h3] at K3
        rw [Bool.false_and]
        clear h1 h2 h3
        go_enter Try.func37, Try.ntmps37
        go_wp2_with fail
        refine (K1 _).mono ?_
        rintro e w2 ⟨rfl, rfl⟩
        clear K1
        go_wp2_with fail
        refine (K2 _).mono ?_
        rintro e w2 ⟨rfl, rfl⟩
        clear K2
        go_wp2_with fail
        refine (K3 _).mono ?_
        rintro e w2 ⟨rfl, rfl⟩
        go_wp2_with fail
        go_ret
        exact ⟨rfl, (Fr.refl _ _).alloc _⟩
      · rw [h3] at K3
        rw [Bool.true_and]
        generalize (decide (1 ≤ budget) && decide (budget ≤ 1000000)) = B at *
        clear h1 h2 h3
        go_enter Try.func37, Try.ntmps37
        go_wp2_with fail
        refine (K1 _).mono ?_
        rintro e w2 ⟨rfl, rfl⟩
        clear K1
        go_wp2_with fail
        refine (K2 _).mono ?_
        rintro e w2 ⟨rfl, rfl⟩
        clear K2
        go_wp2_with fail
        refine (K3 _).mono ?_
        rintro e w2 ⟨rfl, rfl⟩
        clear K3
        go_wp2_with fail
        refine (K4 _).mono ?_
        rintro e w2 ⟨rfl, rfl⟩
        go_wp2_with fail
        go_ret
        exact ⟨rfl, (Fr.refl _ _).alloc _⟩
end Go.Proofs.Ytnnacdkijeoeoaa

namespace Go.Proofs.Ytnnacdkijeoeoaa
open Go.RowKit

theorem next_in {l : List Sec} {js : List Jo} (hj : jointsB l js = true) {s e : Int} (h : nextOk js s e = true) : isSecB l.length (nextS js s e) = true := by
  obtain ⟨_, _, _, _, h3⟩ := next_back hj h
  unfold isEndB at h3
  simp only [Bool.and_eq_true] at h3
  exact h3.1

set_option maxHeartbeats 4000000 in
theorem hangs_any (C : Cm) (r : Ro) (w : World) (h : C.Ok w) (hr : r.Ok w) (hj : jointsB C.l C.js = true) :
    Calls Try.prog 73 #[C.val, r.val] w fun e w' => e = .returned (.bool (hangsB C.l C.js (beyOk C.sg C.js r.entry) (beyS C.sg C.js r.entry) (beyE C.sg C.js r.entry) r.path)) ∧ Fr (fun _ => False) w w' := by
  have KB := fun W (f : Fr (fun _ => False) w W) => beyond_any C r.entry W (h.fr f)
  have hin : beyOk C.sg C.js r.entry = true → isSecB C.l.length (beyS C.sg C.js r.entry) = true := by
    unfold beyOk beyS
    intro hb
    simp only [Bool.and_eq_true] at hb
    rw [if_pos hb.1]
    exact next_in hj hb.2
  have HJ := Lib.hid hj
  have b1 := hr.b1
  have b2 := h.b2
  clear hj
  generalize hT : hangsB C.l C.js (beyOk C.sg C.js r.entry) (beyS C.sg C.js r.entry) (beyE C.sg C.js r.entry) r.path = T
  have HT := Lib.hid hT
  clear hT
  generalize beyOk C.sg C.js r.entry = ok at *
  generalize beyS C.sg C.js r.entry = s at *
  generalize beyE C.sg C.js r.entry = i at *
  have HIN := Lib.hid hin
  clear hin
  unfold Cm.val Cm.arr Ro.val at *
  go_enter Try.func73, Try.ntmps73
  go_wp2_with fail
  refine (KB _ (((Fr.refl _ _).alloc _).alloc _)).mono ?_
  clear KB
  rintro x w1 ⟨rfl, f1⟩
  have isp : Is w1 w.heap.size 97 C.arr := ((Is.new w _ _).alloc _).fr f1 id
  have isr : Is w1 (w.heap.size + 1) 83 #[.int .i64 r.entry, .int .i64 r.exit, .slice r.a1 r.path.length r.c1, .slice r.a2 r.flank.length r.c2, .slice r.a3 r.over.length r.c3, .bool r.shunt] := (is_new_at (by simp) _ _).fr f1 id
  have F := fr_nil (((Fr.refl (fun _ => False) w).alloc (.cells C.arr 97)).alloc (.cells #[.int .i64 r.entry, .int .i64 r.exit, .slice r.a1 r.path.length r.c1, .slice r.a2 r.flank.length r.c2, .slice r.a3 r.over.length r.c3, .bool r.shunt] 83)) f1
  obtain ⟨r0, r1, r2, r3, r4, r5⟩ := ro_cells isr
  clear f1
  go_wp2_with fail
  clear r0 r1 r2 r3 r4 r5
  go_loopw [5, 6, 7, 23] (fun v5 v6 v7 v23 wr => ∃ (k : Nat) (s i : Int) (ok : Bool), k ≤ r.path.length ∧ v23 = .int .i64 (k : Nat) ∧ v5 = .int .i64 s ∧ v6 = .int .i64 i ∧ v7 = .bool ok ∧ (ok = true → isSecB C.l.length s = true) ∧
      hangsB C.l C.js ok s i (r.path.drop k) = T ∧ Is wr w.heap.size 97 C.arr ∧ Fr (fun _ => False) w wr) (fun _ _ _ i _ => r.path.length - (intOf i).toNat)
  case atStart => exact ⟨0, s, i, ok, Nat.zero_le _, rfl, rfl, rfl, rfl, HIN.out, HT.out, isp, F⟩
  case round =>
    clear HT HIN isp F isr
    obtain ⟨k, s, i, ok, hk, rfl, rfl, rfl, rfl, hin, hT, isp, fr⟩ := hrel
    by_cases hlt : k < r.path.length
    · obtain ⟨ga, oa, ha, q0, q1, q2⟩ := rd_st (hr.path.fr fr fun _ _ => id) hlt
      rw [List.drop_eq_getElem_cons hlt, hangsB] at hT
      generalize hrest : r.path.drop (k + 1) = rest at *
      have HR := Lib.hid hrest
      clear hrest
      generalize r.path[k] = x at *
      obtain ⟨xs, xi, xo⟩ := x
      simp only at *
      rw [ha]
      have HA := Lib.hid ha
      clear ha
      cases ok
      · rw [Bool.false_and] at hT
        subst hT
        clear hin
        go_wp2_with fail
        go_ret
        exact ⟨rfl, fr.alloc _⟩
      · rw [Bool.true_and] at hT
        obtain ⟨q, rfl, hq⟩ := isSecB_true (hin rfl)
        clear hin
        by_cases h1 : xs = (q : Int)
        · subst h1
          rw [show decide ((q : Int) = (q : Int)) = true by simp, Bool.true_and] at hT
          by_cases h2 : xi = i
          · subst h2
            rw [show decide (xi = xi) = true by simp, Bool.true_and, Int.toNat_natCast, kindOf_at hq] at hT
            obtain ⟨gs, os', hA1, s0, _, _⟩ := rd_sec (h.secs.fr fr fun _ _ => id) hq
            have KP := fun W => pos_any C.l[q].kind xi xo W
            have KN := fun W (f : Fr (fun _ => False) w W) => next_any (c := C.c2) (q : Int) xo W (h.jos.fr f fun _ _ => id) (by omega)
            have f0 := fr.alloc (.cells #[.int .i64 (q : Nat), .int .i64 xi, .int .i64 xo] 79)
            have isp1 := isp.alloc (.cells #[.int .i64 (q : Nat), .int .i64 xi, .int .i64 xo] 79)
            have isv := Is.new wr 79 #[.int .i64 (q : Nat), .int .i64 xi, .int .i64 xo]
            have s1 := (((Fr.refl (fun _ => False) wr).alloc (.cells #[.int .i64 (q : Nat), .int .i64 xi, .int .i64 xo] 79)).cell (p := ⟨gs, os' + q * 3, none⟩) (World.block_lt_of_cell? _ ⟨gs, os' + q * 3, none⟩ s0) id).trans s0
            generalize C.l[q].kind = kd at *
            obtain ⟨p0, p1, p2, p3, p4, p5, p6, p7, p8⟩ := plan_cells isp1
            rw [hA1] at p0
            have P0 := cell_fro p0
            have S0 := cell_fro s1
            have V2 := cell_fro (isv.cell 2)
            have HA1 := Lib.hid hA1
            clear hA1 s0 s1 p0 p1 p2 p3 p4 p5 p6 p7 p8
            have j1 : (0 : Int) ≤ (q : Int) := by omega
            have j2 : (q : Int) < (C.l.length : Int) := by omega
            cases hp : posOk kd xi xo
            · rw [hp] at hT KP
              rw [Bool.false_and] at hT
              subst hT
              clear hp KN
              generalize posOut kd xi xo = po at *
              go_upto_region 7 with (fail)
              generalize hW : (wr.alloc (.cells #[.int .i64 (q : Nat), .int .i64 xi, .int .i64 xo] 79)) = W0 at *
              refine region_fro (by kernel_rfl) (by kernel_rfl) ?_
              repeat (go_big_quiet_step ((go_at_call 83; exact call_fro (KP _))))
              refine wpQuiet_nil ?_
              rintro _ ⟨⟨w6, f6⟩, rfl⟩
              go_wp2_with fail
              go_ret
              exact ⟨rfl, fr_nil f0 f6⟩
            · rw [hp] at hT KP
              rw [Bool.true_and] at hT
              have hin2 := fun hn => next_in HJ.out (s := (q : Int)) (e := xo) hn
              generalize nextOk C.js (q : Int) xo = nk at *
              generalize nextS C.js (q : Int) xo = ns at *
              generalize nextE C.js (q : Int) xo = ne at *
              have HT := Lib.hid hT
              have HIN := Lib.hid hin2
              clear hp hT hin2
              generalize posOut kd xi xo = po at *
              go_upto_region 7 with (fail)
              generalize hW : (wr.alloc (.cells #[.int .i64 (q : Nat), .int .i64 xi, .int .i64 xo] 79)) = W0 at *
              refine region_fro (by kernel_rfl) (by kernel_rfl) ?_
              repeat (go_big_quiet_step ((go_at_call 83; exact call_fro (KP _))))
              refine wpQuiet_nil ?_
              rintro _ ⟨⟨w6, f6⟩, rfl⟩
              have isp6 := isp1.fr f6 id
              have isv6 := isv.fr f6 id
              have F6 := fr_nil f0 f6
              clear P0 S0 V2 hW
              obtain ⟨p0, p1, p2, p3, p4, p5, p6, p7, p8⟩ := plan_cells isp6
              have v2 := isv6.cell 2
              go_wp2_with fail
              refine (KN _ F6).mono ?_
              rintro e w7 ⟨rfl, f7⟩
              clear p0 p1 p2 p3 p4 p5 p6 p7 p8 v2
              go_wp2_with fail
              go_roundw
              case rel => exact ⟨k + 1, ns, ne, nk, by omega, by go_num, rfl, rfl, rfl, HIN.out, by rw [HR.out]; exact HT.out, isp6.fr f7 id, fr_nil F6 f7⟩
              case measure => simp [intOf]; omega
          · rw [show decide (xi = i) = false by simp [h2], Bool.false_and] at hT
            subst hT
            have e2 : (xi != i) = true := by simp [h2]
            clear h2
            go_wp2_with fail
            go_ret
            exact ⟨rfl, fr.alloc _⟩
        · rw [show decide (xs = (q : Int)) = false by simp [h1], Bool.false_and] at hT
          subst hT
          have e1 : (xs != (q : Int)) = true := by simp [h1]
          clear h1
          go_wp2_with fail
          go_ret
          exact ⟨rfl, fr.alloc _⟩
    · rw [List.drop_eq_nil_of_le (by omega)] at hT
      obtain rfl : T = true := by rw [← hT]; unfold hangsB; rfl
      go_wp2_with fail
      go_ret
      exact ⟨rfl, fr⟩
end Go.Proofs.Ytnnacdkijeoeoaa

namespace Go.Proofs.Ytnnacdkijeoeoaa
open Go.RowKit

theorem ends_in {l : List Sec} {js : List Jo} (hj : jointsB l js = true) {s e : Int} (h : nextOk js s e = true) : isSecB l.length s = true := by
  obtain ⟨h1, h2, _, _, _⟩ := next_back hj h
  have := next_in hj h1
  rw [h2] at this
  exact this
theorem hangs_in {l : List Sec} {js : List Jo} (hj : jointsB l js = true) : ∀ (p : List St) (ok : Bool) (s i : Int), (ok = true → isSecB l.length s = true) → hangsB l js ok s i p = true → ∀ x ∈ p, isSecB l.length x.sec = true
  | [], _, _, _, _, _, x, hx => by simp at hx
  | y :: r, ok, s, i, hs, h, x, hx => by
    unfold hangsB at h
    simp only [Bool.and_eq_true, decide_eq_true_eq] at h
    obtain ⟨hok, h1, _, _, h4⟩ := h
    rcases List.mem_cons.1 hx with e | hx
    · subst e
      rw [h1]
      exact hs hok
    · exact hangs_in hj r _ _ _ (fun hn => next_in hj hn) h4 x hx

set_option maxHeartbeats 4000000 in
theorem once_any (C : Cm) (r : Ro) (w : World) (h : C.Ok w) (hr : r.Ok w) (ha : isSecB C.l.length (apM C.sg r.entry) = true) (hp : ∀ x ∈ r.path, isSecB C.l.length x.sec = true) :
    Calls Try.prog 74 #[C.val, r.val] w fun e w' => e = .returned (.bool (onceB ((List.replicate C.l.length false).set (apM C.sg r.entry).toNat true) r.path)) ∧ Fr (fun _ => False) w w' := by
  have KA := fun W (f : Fr (fun _ => False) w W) => approach_any C r W (h.fr f)
  have b1 := h.b1
  have b2 := hr.b1
  have hmk := make_bools C.l.length (by omega)
  obtain ⟨q, hq, hql⟩ := isSecB_true ha
  have HQ := Lib.hid hq
  rw [hq] at KA ⊢
  rw [Int.toNat_natCast]
  have HP := Lib.hid hp
  clear ha hq hp
  have hl0 : ((List.replicate C.l.length false).set q true).length = C.l.length := by rw [List.length_set, List.length_replicate]
  generalize hcs : cellsB (List.replicate C.l.length false) = cs at hmk
  have k00 : cs[q]? = some (.bool (seenAt (List.replicate C.l.length false) q)) := by rw [← hcs]; exact cellsB_at (by rw [List.length_replicate]; exact hql)
  have hset : cs.setIfInBounds q (.bool true) = cellsB ((List.replicate C.l.length false).set q true) := by rw [← hcs, cellsB_set]
  have HC := Lib.hid hcs
  have HSET := Lib.hid hset
  clear hcs hset
  generalize hT : onceB ((List.replicate C.l.length false).set q true) r.path = T
  have HT := Lib.hid hT
  clear hT
  generalize (List.replicate C.l.length false).set q true = b0 at *
  have HL0 := Lib.hid hl0
  clear hl0
  unfold Cm.val Cm.arr Ro.val at *
  go_enter Try.func74, Try.ntmps74
  go_wp2_with fail
  refine (KA _ ((((Fr.refl _ _).alloc _).alloc _).alloc _)).mono ?_
  clear KA hmk
  rintro x w1 ⟨rfl, f1⟩
  have isr : Is w1 (w.heap.size + 1) 83 #[.int .i64 r.entry, .int .i64 r.exit, .slice r.a1 r.path.length r.c1, .slice r.a2 r.flank.length r.c2, .slice r.a3 r.over.length r.c3, .bool r.shunt] := ((is_new_at (by simp) _ _).alloc _).fr f1 id
  have isb : Is w1 (w.heap.size + 2) 4 cs := (is_new_at (by simp) _ _).fr f1 id
  have F : Fr (fun _ => False) w w1 := fr_nil ((((Fr.refl (fun _ => False) w).alloc (.cells C.arr 97)).alloc (.cells #[.int .i64 r.entry, .int .i64 r.exit, .slice r.a1 r.path.length r.c1, .slice r.a2 r.flank.length r.c2, .slice r.a3 r.over.length r.c3, .bool r.shunt] 83)).alloc (.cells cs 4)) f1
  have c0 := (isb.cell q).trans k00
  have c1 := isb.frozen q
  have isb2 := isb.set q (.bool true)
  rw [HSET.out] at isb2
  have isr2 := isr.far (p := ⟨w.heap.size + 2, q, none⟩) (by simp) (.bool true)
  have F2 := F.setCell (p := ⟨w.heap.size + 2, q, none⟩) (.inr (by simp)) (.bool true)
  obtain ⟨r0, r1, r2, r3, r4, r5⟩ := ro_cells isr2
  clear f1 isr isb F
  go_wp2_with fail
  clear r0 r1 r2 r3 r4 r5 c0 c1 k00
  go_loopw [21] (fun v21 wr => ∃ (k : Nat) (b : List Bool), k ≤ r.path.length ∧ v21 = .int .i64 (k : Nat) ∧ b.length = C.l.length ∧ onceB b (r.path.drop k) = T ∧ Is wr (w.heap.size + 2) 4 (cellsB b) ∧ Fr (fun _ => False) w wr) (fun i _ => r.path.length - (intOf i).toNat)
  case atStart => exact ⟨0, b0, Nat.zero_le _, rfl, HL0.out, HT.out, isb2, F2⟩
  case round =>
    clear HT isb2 isr2 F2 HL0 HSET HC
    obtain ⟨k, b, hk, rfl, hbl, hT, isb, fr⟩ := hrel
    by_cases hlt : k < r.path.length
    · obtain ⟨ga, oa, ha, q0, q1, q2⟩ := rd_st (hr.path.fr fr fun _ _ => id) hlt
      obtain ⟨j, hj, hjl⟩ := isSecB_true (HP.out _ (List.getElem_mem hlt))
      rw [List.drop_eq_getElem_cons hlt, onceB, hj, Int.toNat_natCast] at hT
      generalize hrest : r.path.drop (k + 1) = rest at *
      have HR := Lib.hid hrest
      clear hrest
      generalize r.path[k] = x at *
      obtain ⟨xs, xi, xo⟩ := x
      simp only at *
      subst hj
      rw [ha]
      have HA := Lib.hid ha
      have isb1 := isb.alloc (.cells #[.int .i64 (j : Nat), .int .i64 xi, .int .i64 xo] 79)
      have c0 := (isb1.cell j).trans (cellsB_at (by omega))
      have c1 := isb1.frozen j
      have c2 := (isb.cell j).trans (cellsB_at (by omega))
      have c3 := isb.frozen j
      clear ha
      cases hs : seenAt b j
      · rw [hs] at hT c0 c2
        rw [Bool.not_false, Bool.true_and] at hT
        have HT := Lib.hid hT
        have HBL := Lib.hid hbl
        clear hT hs hbl
        go_wp2_with fail
        go_roundw
        case rel => exact ⟨k + 1, b.set j true, by omega, by go_num, by rw [List.length_set]; exact HBL.out, by rw [HR.out]; exact HT.out, by have := isb1.set j (.bool true); rw [cellsB_set] at this; exact this, (fr.alloc _).setCell (p := ⟨w.heap.size + 2, j, none⟩) (.inr (by simp)) _⟩
        case measure => simp [intOf]; omega
      · rw [hs] at hT c0 c2
        rw [Bool.not_true, Bool.false_and] at hT
        subst hT
        clear hs
        go_wp2_with fail
        go_ret
        exact ⟨rfl, fr.alloc _⟩
    · rw [List.drop_eq_nil_of_le (by omega)] at hT
      obtain rfl : T = true := by rw [← hT]; rfl
      go_wp2_with fail
      go_ret
      exact ⟨rfl, fr⟩
end Go.Proofs.Ytnnacdkijeoeoaa

namespace Go.Proofs.Ytnnacdkijeoeoaa
open Go.RowKit

def linedAt (l : List Sec) : List St → Nat → Int
  | [], _ => -1
  | x :: r, k => if lineOf l x.sec.toNat = 0 then linedAt l r (k + 1) else k
theorem linedAt_ge (l : List Sec) : ∀ (p : List St) (k : Nat), decide (0 ≤ linedAt l p k) = linedB l p
  | [], _ => rfl
  | x :: r, k => by
    unfold linedAt linedB
    by_cases h : lineOf l x.sec.toNat = 0
    · rw [if_pos h, linedAt_ge l r (k + 1), h]
      rfl
    · rw [if_neg h, show decide (lineOf l x.sec.toNat = 0) = false by simp [h]]
      simp

set_option maxHeartbeats 1000000 in
theorem lclos_any (C : Cm) (x : St) (b : Nat) (w : World) (h : C.Ok w) (isp : Is w b 97 C.arr) (hx : isSecB C.l.length x.sec = true) :
    Calls Try.prog 86 #[.agg #[.int .i64 x.sec, .int .i64 x.inn, .int .i64 x.out], .pointer (some ⟨b, 0, none⟩)] w fun e w' => e = .returned (.bool (!decide (lineOf C.l x.sec.toNat = 0))) ∧ Fr (fun _ => False) w w' := by
  obtain ⟨k, hk, hlt⟩ := isSecB_true hx
  obtain ⟨xs, xi, xo⟩ := x
  simp only at *
  subst hk
  rw [Int.toNat_natCast, lineOf_at hlt]
  have isp1 := isp.alloc (.cells #[.int .i64 (k : Nat), .int .i64 xi, .int .i64 xo] 79)
  obtain ⟨p0, _⟩ := plan_cells isp1
  obtain ⟨g, o, hA, _, _, s2⟩ := rd_sec (h.secs.fr ((Fr.refl (fun _ => False) w).alloc (.cells #[.int .i64 (k : Nat), .int .i64 xi, .int .i64 xo] 79)) fun _ _ => id) hlt
  rw [hA] at p0
  generalize C.l[k].line = ln at *
  clear hx hA isp isp1
  by_cases hl : ln = 0
  · subst hl
    go_enter Try.func86, Try.ntmps86
    go_wp2_with fail
    go_ret
    exact ⟨rfl, (Fr.refl _ _).alloc _⟩
  · have e0 : (ln != 0) = true := by simp [hl]
    rw [show decide (ln = 0) = false by simp [hl]]
    clear hl
    go_enter Try.func86, Try.ntmps86
    go_wp2_with fail
    go_ret
    exact ⟨rfl, (Fr.refl _ _).alloc _⟩

set_option maxHeartbeats 1000000 in
theorem lindex_any (C : Cm) {A : Option Addr} {c : Nat} (p : List St) (b : Nat) (w : World) (h : C.Ok w) (isp : Is w b 97 C.arr) (hp : ∀ x ∈ p, isSecB C.l.length x.sec = true) (hr : Rd w A (cellsT p)) (hl : p.length ≤ 9223372036854775807) :
    Calls Try.prog 90 #[.slice A p.length c, .func (.func 86) #[] #[.pointer (some ⟨b, 0, none⟩)]] w fun e w' => e = .returned (.int .i64 (linedAt C.l p 0)) ∧ Fr (fun _ => False) w w' := by
  have K := fun x W (f : Fr (fun _ => False) w W) (hx : isSecB C.l.length x.sec = true) => lclos_any C x b W (h.fr f) (isp.fr f id) hx
  generalize hT : linedAt C.l p 0 = T
  have HT := Lib.hid hT
  clear hT
  go_enter Try.func90, Try.ntmps90
  go_wp2_with fail
  go_loopw [8] (fun i wr => ∃ k : Nat, k ≤ p.length ∧ i = .int .i64 (k : Nat) ∧ linedAt C.l (p.drop k) k = T ∧ Fr (fun _ => False) w wr) (fun i _ => p.length - (intOf i).toNat)
  case atStart => exact ⟨0, Nat.zero_le _, rfl, HT.out, Fr.refl _ _⟩
  case round =>
    clear HT
    obtain ⟨k, hk, rfl, hT, fr⟩ := hrel
    by_cases hlt : k < p.length
    · obtain ⟨g, o, rfl, q0, q1, q2⟩ := rd_st (hr.fr fr fun _ _ => id) hlt
      have KX := fun W (f : Fr (fun _ => False) w W) => K p[k] W f (hp _ (List.getElem_mem hlt))
      rw [List.drop_eq_getElem_cons hlt, linedAt] at hT
      generalize p[k] = x at *
      by_cases hx : lineOf C.l x.sec.toNat = 0
      · rw [if_pos hx] at hT
        rw [show decide (lineOf C.l x.sec.toNat = 0) = true by simp [hx]] at KX
        have HT := Lib.hid hT
        clear hT hx K
        go_wp2_with fail
        refine (KX _ fr).mono ?_
        rintro e w1 ⟨rfl, f1⟩
        go_wp2_with fail
        go_roundw
        case rel => exact ⟨k + 1, by omega, by go_num, HT.out, fr_nil fr f1⟩
        case measure => simp [intOf]; omega
      · rw [if_neg hx] at hT
        rw [show decide (lineOf C.l x.sec.toNat = 0) = false by simp [hx]] at KX
        subst hT
        clear hx K
        go_wp2_with fail
        refine (KX _ fr).mono ?_
        rintro e w1 ⟨rfl, f1⟩
        go_wp2_with fail
        go_ret
        exact ⟨rfl, fr_nil fr f1⟩
    · rw [List.drop_eq_nil_of_le (by omega), linedAt] at hT
      subst hT
      clear K
      go_wp2_with fail
      go_ret
      exact ⟨rfl, fr⟩
theorem lcontains_any (C : Cm) {A : Option Addr} {c : Nat} (p : List St) (b : Nat) (w : World) (h : C.Ok w) (isp : Is w b 97 C.arr) (hp : ∀ x ∈ p, isSecB C.l.length x.sec = true) (hr : Rd w A (cellsT p)) (hl : p.length ≤ 9223372036854775807) :
    Calls Try.prog 85 #[.slice A p.length c, .func (.func 86) #[] #[.pointer (some ⟨b, 0, none⟩)]] w fun e w' => e = .returned (.bool (linedB C.l p)) ∧ Fr (fun _ => False) w w' := by
  have K := lindex_any C (c := c) p b w h isp hp hr hl
  rw [← linedAt_ge C.l p 0]
  generalize linedAt C.l p 0 = T at *
  go_enter Try.func85, Try.ntmps85
  go_wp2_with fail
  refine K.mono ?_
  rintro e w1 ⟨rfl, f1⟩
  go_wp2_with fail
  go_ret
  exact ⟨rfl, f1⟩
theorem lined_any (C : Cm) {A : Option Addr} {c : Nat} (p : List St) (w : World) (h : C.Ok w) (hp : ∀ x ∈ p, isSecB C.l.length x.sec = true) (hr : Rd w A (cellsT p)) (hl : p.length ≤ 9223372036854775807) :
    Calls Try.prog 76 #[C.val, .slice A p.length c] w fun e w' => e = .returned (.bool (linedB C.l p)) ∧ Fr (fun _ => False) w w' := by
  have K := fun b W (f : Fr (fun _ => False) w W) (isp : Is W b 97 C.arr) => lcontains_any C (c := c) p b W (h.fr f) isp hp (hr.fr f fun _ _ => id) hl
  generalize linedB C.l p = T at *
  unfold Cm.val
  go_enter Try.func76, Try.ntmps76
  go_wp2_with fail
  refine (K _ _ ((Fr.refl _ _).alloc _) (Is.new _ _ _)).mono ?_
  rintro e w1 ⟨rfl, f1⟩
  go_wp2_with fail
  go_ret
  exact ⟨rfl, fr_nil ((Fr.refl _ _).alloc _) f1⟩

theorem head_steps (g o n c : Nat) (h : n + 1 ≤ c) (W : World) : (Instr.slice 80 (.slice (some ⟨g, o, none⟩) (n + 1) c) none (some (.int .i64 (n : Int))) none).run Try.prog W = .ok (.slice (some ⟨g, o, none⟩) n c) W := by
  have h1 : (n : Int) ≤ (c : Int) := by omega
  go_simp
theorem Rd.take {w : World} {A : Option Addr} {l : List St} (h : Rd w A (cellsT l)) (k : Nat) : Rd w A (cellsT (l.take k)) := by
  have e : cellsT l = cellsT (l.take k) ++ cellsT (l.drop k) := by
    unfold cellsT
    rw [← List.flatMap_append, List.take_append_drop]
  rw [e] at h
  exact h.pre
end Go.Proofs.Ytnnacdkijeoeoaa

namespace Go.Proofs.Ytnnacdkijeoeoaa
open Go.RowKit

theorem vals_cells {w : World} {b : Nat} {t : TypeId} {v0 v1 v2 v3 v4 v5 : Value} (h : Is w b t #[v0, v1, v2, v3, v4, v5]) :
    w.cell? ⟨b, 0, none⟩ = some v0 ∧ w.cell? ⟨b, 1, none⟩ = some v1 ∧ w.cell? ⟨b, 2, none⟩ = some v2 ∧ w.cell? ⟨b, 3, none⟩ = some v3 ∧ w.cell? ⟨b, 4, none⟩ = some v4 ∧ w.cell? ⟨b, 5, none⟩ = some v5 :=
  ⟨h.cell 0, h.cell 1, h.cell 2, h.cell 3, h.cell 4, h.cell 5⟩
theorem lastSt_at {p : List St} {n : Nat} (h : p.length = n + 1) : lastSt p = p[n]'(by omega) := by
  unfold lastSt
  rw [show p.length - 1 = n by omega, List.getD_eq_getElem?_getD, List.getElem?_eq_getElem (by omega)]
  rfl

set_option maxHeartbeats 8000000 in
theorem endr_any (C : Cm) (r : Ro) (w : World) (h : C.Ok w) (hr : r.Ok w) (hn : 1 ≤ r.path.length) (hx : r.exit = -1 ∨ isSecB C.sg.length r.exit = true) :
    Calls Try.prog 75 #[C.val, r.val] w fun e w' => e = .returned (.bool (clearB C.sg (r.path.take (r.path.length - 1)) && endB C.js C.sg r.exit (lastSt r.path))) ∧ Fr (fun _ => False) w w' := by
  obtain ⟨en, ex, a1, k1, path, a2, k2, flank, a3, k3, over, sh⟩ := r
  have h1 := hr.path
  have l1 := hr.l1
  have c1 := hr.k1
  clear hr
  dsimp only at *
  obtain ⟨n, hN⟩ : ∃ n, path.length = n + 1 := ⟨path.length - 1, by omega⟩
  obtain ⟨ga, oa, rfl, z0, z1, z2⟩ := rd_st h1 (show n < path.length by omega)
  rw [← lastSt_at hN] at z0 z1 z2
  rw [show path.length - 1 = n by omega]
  have hgz := World.block_lt_of_cell? _ ⟨ga, oa + n * 3, none⟩ z0
  have hhd := head_steps ga oa n k1 (by omega)
  have KL := fun x W => leaves_any x W
  have KC := fun v W (f : Fr (fun _ => False) w W) => sgcontains_any (c := C.c3) v W (h.sigs.fr f fun _ _ => id) (by have := h.b3; omega)
  have KJ := fun s e W (f : Fr (fun _ => False) w W) => joined_any C s e W (h.fr f)
  have htl : (path.take n).length = n := by rw [List.length_take]; omega
  have HTL := Lib.hid htl
  generalize lastSt path = lx at *
  generalize hB : endB C.js C.sg ex lx = B at *
  have HB := Lib.hid hB
  generalize hT : (clearB C.sg (path.take n) && B) = T at *
  have HT := Lib.hid hT
  have HN := Lib.hid hN
  have h1t := h1.take n
  generalize hPT : path.take n = pt at *
  have hnb : n + 1 ≤ 9223372036854775807 := by omega
  clear htl hB hT hN hPT l1
  unfold Cm.val Ro.val
  dsimp only
  rw [HN.out]
  go_enter Try.func75, Try.ntmps75
  unfold Cm.arr
  have d1 : (n : Int) + 1 - 1 = (n : Int) := by omega
  go_wp2_with fail
  clear d1 hhd
  go_loopw [18] (fun v18 wr => ∃ k : Nat, k ≤ n ∧ v18 = .int .i64 (k : Nat) ∧ (clearB C.sg (pt.drop k) && B) = T ∧ Is wr w.heap.size 97 C.arr ∧ Is wr (w.heap.size + 1) 83 #[.int .i64 en, .int .i64 ex, .slice (some ⟨ga, oa, none⟩) (n + 1) k1, .slice a2 flank.length k2, .slice a3 over.length k3, .bool sh] ∧ Fr (fun _ => False) w wr) (fun i _ => n - (intOf i).toNat)
  case atStart => exact ⟨0, Nat.zero_le _, rfl, HT.out, (Is.new w _ _).alloc _, is_new_at (by simp) _ _, ((Fr.refl _ _).alloc _).alloc _⟩
  case round =>
    clear HT
    obtain ⟨k, hk, rfl, hT, isp, isr, fr⟩ := hrel
    by_cases hlt : k < n
    · have hlt2 : k < pt.length := by rw [HTL.out]; exact hlt
      obtain ⟨ga', oa', e, q0, q1, q2⟩ := rd_st (h1t.fr fr fun _ _ => id) hlt2
      injection e with e
      injection e with e1 e2
      subst e1 e2
      rw [List.drop_eq_getElem_cons hlt2, clearB] at hT
      generalize hrest : pt.drop (k + 1) = rest at *
      have HR := Lib.hid hrest
      clear hrest
      generalize pt[k] = x at *
      have KL := fun W => KL x W
      have KC := KC (leaveS x)
      have f0 := fr.alloc (.cells #[.int .i64 x.sec, .int .i64 x.inn, .int .i64 x.out] 79)
      have isp1 := isp.alloc (.cells #[.int .i64 x.sec, .int .i64 x.inn, .int .i64 x.out] 79)
      have isr1 := isr.alloc (.cells #[.int .i64 x.sec, .int .i64 x.inn, .int .i64 x.out] 79)
      have isv := Is.new wr 79 #[.int .i64 x.sec, .int .i64 x.inn, .int .i64 x.out]
      have P2 := cell_fro (plan_cells isp1).2.2.1
      have V0 := cell_fro (isv.cell 0)
      have V1 := cell_fro (isv.cell 1)
      have V2 := cell_fro (isv.cell 2)
      unfold leaveS at KC
      cases hc : C.sg.contains (leaveS x)
      all_goals
        unfold leaveS at hc
        rw [hc] at KC
        rw [show C.sg.contains (leaveS x) = _ from hc] at hT
        first | rw [Bool.not_false, Bool.true_and] at hT | (rw [Bool.not_true, Bool.false_and, Bool.false_and] at hT; subst hT)
        try (have HT := Lib.hid hT; clear hT)
        clear hc
        go_upto_region 5 with (fail)
        generalize hW : (wr.alloc (.cells #[.int .i64 x.sec, .int .i64 x.inn, .int .i64 x.out] 79)) = W0 at *
        refine region_fro (by kernel_rfl) (by kernel_rfl) ?_
        repeat (go_big_quiet_step (first | (go_at_call 84; exact call_fro (KL _)) | (go_at_call 55; exact call_fro (KC _ (fr_nil f0 (Fro.f _))))))
        refine wpQuiet_nil ?_
        rintro _ ⟨⟨w6, f6⟩, rfl⟩
        go_wp2_with fail
      · go_roundw
        case rel => exact ⟨k + 1, by omega, by go_num, by rw [HR.out]; exact HT.out, isp1.fr f6 id, isr1.fr f6 id, fr_nil f0 f6⟩
        case measure => simp [intOf]; omega
      · go_ret
        exact ⟨rfl, fr_nil f0 f6⟩
    · obtain rfl : k = n := by omega
      rw [List.drop_eq_nil_of_le (by rw [HTL.out]; exact Nat.le_refl _)] at hT
      obtain rfl : B = T := hT
      have hgw : ga < wr.heap.size := Nat.lt_of_lt_of_le hgz fr.size
      have Z0 := (fr.cell hgz (fun x => x)).trans z0
      have Z1 := (fr.cell hgz (fun x => x)).trans z1
      have Z2 := (fr.cell hgz (fun x => x)).trans z2
      have R2 := isr.cell 2
      have R1 := isr.cell 1
      have d3 : ((k : Int) + 1 - 1) = (k : Int) := by omega
      have KL := fun W => KL lx W
      go_wp2_with fail
      refine (KL _).mono ?_
      rintro _ w1 ⟨rfl, f1⟩
      have F0 := fr_nil fr f1
      have isp1 := (isp.fr f1 id).alloc (.cells #[.int .i64 lx.sec, .int .i64 lx.out] 77)
      have isr1 := (isr.fr f1 id).alloc (.cells #[.int .i64 lx.sec, .int .i64 lx.out] 77)
      have F := F0.alloc (.cells #[.int .i64 lx.sec, .int .i64 lx.out] 77)
      have isv := Is.new w1 77 #[.int .i64 lx.sec, .int .i64 lx.out]
      obtain ⟨p0, p1, P2, p3, p4, p5, p6, p7, p8⟩ := plan_cells isp1
      have Q1 := isr1.cell 1
      have V0 := isv.cell 0
      have V1 := isv.cell 1
      have KJ := fun W f => KJ lx.sec lx.out W f
      clear KL KC isp isr fr f1 Z0 Z1 Z2 R1 R2 z0 z1 z2 hgw F0
      have hBB := HB.out
      unfold endB at hBB
      by_cases hex : ex = -1
      · rw [if_pos hex] at hBB
        subst hex
        clear HB
        go_wp2_with fail
        refine (KJ _ F).mono ?_
        rintro e w2 ⟨rfl, f2⟩
        clear KJ
        cases hnx : nextOk C.js lx.sec lx.out
        all_goals
          rw [hnx] at hBB
          clear hnx
          subst hBB
          go_wp2_with fail
          go_ret
          exact ⟨rfl, fr_nil F f2⟩
      · rw [if_neg hex] at hBB
        obtain ⟨j, hj, hjl⟩ := isSecB_true (hx.resolve_left hex)
        rw [hj, sgAt_nat hjl] at hBB
        have hexb : (ex == -1) = false := by simp [hex]
        obtain ⟨gg, og, hA, s0, s1⟩ := rd_sg (h.sigs.fr F fun _ _ => id) hjl
        rw [hA] at P2
        have HJ := Lib.hid hj
        clear hA HB hx hex KJ hj
        generalize C.sg[j] = x at *
        obtain ⟨xs, xf⟩ := x
        obtain ⟨ls, li, lo⟩ := lx
        simp only [leaveS] at *
        go_wp2_with fail
        rw [HJ.out] at Q1 ⊢
        clear HJ
        by_cases e1 : xs = ls
        · subst e1
          by_cases e2 : xf = lo
          · subst e2
            obtain rfl : B = true := by rw [← hBB]; simp
            clear hBB
            go_quiet (fail)
            go_wp2_with fail
            go_ret
            exact ⟨rfl, F.drewN _⟩
          · obtain rfl : B = false := by rw [← hBB]; simp [e2]
            clear hBB
            go_quiet (fail)
            go_wp2_with fail
            go_ret
            exact ⟨rfl, F.drewN _⟩
        · obtain rfl : B = false := by rw [← hBB]; simp [e1]
          clear hBB
          go_quiet (fail)
          go_wp2_with fail
          go_ret
          exact ⟨rfl, F.drewN _⟩
end Go.Proofs.Ytnnacdkijeoeoaa


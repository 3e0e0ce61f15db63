/- The document's own Conflict: one answer with the program's. -/
import Derived.Test.YtkkohdmneognlaaGreatDoorMaz
import Derived.Deep.LoopGhost
namespace Go.Proofs.YtkkohdmneognlaaGreatDoor
open Go.RowKit

theorem inL_contains (l : List Int) (n : Int) : inL l n = l.contains n := by
  rw [Bool.eq_iff_iff, inL_iff, List.contains_iff_mem]
set_option maxRecDepth 100000 in
set_option maxHeartbeats 4000000 in
theorem rconflict_any (C : Cm) (a b : Int) (w : World) (h : C.Ok w) (hb : ∀ r ∈ C.rs, (r.over.length + (r.path.length + r.flank.length)) * 8 ≤ 70368744177664) :
    Calls Tryz.prog 17 #[C.val, .int .i64 a, .int .i64 b] w fun e w' => e = .returned (.bool (clashM C a b)) ∧ Fr (fun _ => False) w w' := by
  have hs1 := locksR_short C a fun r hr => by have := hb r hr; omega
  have hs2 := locksR_short C b fun r hr => by have := hb r hr; omega
  have KA := fun W (f : Fr (fun _ => False) w W) => rlocks_any C a W (h.fr f) hb
  have KB := fun W (f : Fr (fun _ => False) w W) => rlocks_any C b W (h.fr f) hb
  have HF0 := Lib.hid ((Fr.refl (fun _ => False) w).alloc (.cells C.arr 30))
  have HIC := Lib.hid (Is.new w 30 C.arr)
  unfold clashM
  generalize hT : meetB (locksR C a) (locksR C b) = T
  have HT := Lib.hid hT
  generalize locksR C a = X at *
  generalize locksR C b = Y at *
  clear hT hb h
  unfold Cm.val Cm.arr at *
  go_enter Tryz.func17, Tryz.ntmps17
  go_wp2_with fail
  refine (KA _ HF0.out).mono ?_
  clear KA
  rintro e w1 ⟨A1, c1, rfl, own1, f1⟩
  have F1 := fr_nil HF0.out f1
  have is1 := HIC.out.fr f1 id
  have rd1 := wide_rd own1
  clear own1 f1 HIC HF0
  go_wp2_with fail
  go_loopg [8, 13] X.length (fun gi _ v13 wr => ∃ k : Nat, k ≤ X.length ∧ gi = X.length - k ∧ v13 = .int .i64 (k : Nat) ∧ Hid (meetB (X.drop k) Y = T) ∧ Rd wr A1 (X.map (Value.int .i64)) ∧ Is wr w.heap.size 30 #[.slice C.A1 C.l.length C.c1, .slice C.A2 C.js.length C.c2, .slice C.A3 C.sg.length C.c3, .slice C.A4 C.cr.length C.c4, .slice C.A5 C.rs.length C.c5, .int .i64 C.tm.age, .int .i64 C.tm.brake, .int .i64 C.tm.hold, .int .i64 C.tm.budget] ∧ Fr (fun _ => False) w wr)
  case atStart => exact ⟨0, Nat.zero_le _, rfl, rfl, HT, rd1, is1, F1⟩
  case round =>
    clear HT rd1 is1 F1
    obtain ⟨k, hk, rfl, rfl, HT, rdX, isc, F⟩ := hrel
    by_cases hlt : k < X.length
    · obtain ⟨g, o, hA, q0⟩ := rd_int rdX hlt
      have hT := HT.out
      rw [List.drop_eq_getElem_cons hlt] at hT
      unfold meetB at hT
      rw [List.any_cons] at hT
      generalize hR : (X.drop (k + 1)).any (fun x => Y.contains x) = R at hT
      have HR : Hid (meetB (X.drop (k + 1)) Y = R) := Lib.hid hR
      clear hR HT
      generalize X[k] = x at *
      have i1 : (0 : Int) ≤ (k : Int) := by omega
      have i2 : (k : Int) < (X.length : Int) := by omega
      obtain ⟨p0, p1, p2, p3, p4, p5, p6, p7, p8⟩ := conf_cells0 isc
      rw [hA]
      have HA := Lib.hid hA
      clear hA
      go_wp2_with fail
      refine (KB _ F).mono ?_
      rintro e w2 ⟨A2, c2, rfl, own2, f2⟩
      have KI := rin_any (c := c2) Y x w2 (wide_rd own2) (by omega)
      rw [inL_contains] at KI
      have F2 := fr_nil F f2
      have is2 := isc.fr f2 id
      have rd2 := rdX.fr f2 fun _ _ => id
      clear p0 p1 p2 p3 p4 p5 p6 p7 p8 q0 own2 f2 F isc rdX
      cases hx : Y.contains x
      · rw [hx, Bool.false_or] at hT
        rw [hx] at KI
        have HT := Lib.hid (HR.out.trans hT)
        clear hT hx
        go_wp2_with fail
        refine KI.mono ?_
        rintro e w3 ⟨rfl, f3⟩
        go_wp2_with fail
        rw [← HA.out]
        go_roundg (X.length - (k + 1))
        case measure => omega
        case rel => exact ⟨k + 1, by omega, rfl, by go_num, HT, rd2.fr f3 fun _ _ => id, is2.fr f3 id, fr_nil F2 f3⟩
      · rw [hx, Bool.true_or] at hT
        rw [hx] at KI
        subst hT
        clear hx
        go_wp2_with fail
        refine KI.mono ?_
        rintro e w3 ⟨rfl, f3⟩
        go_wp2_with fail
        go_ret
        exact ⟨rfl, fr_nil F2 f3⟩
    · have hT := HT.out
      rw [List.drop_eq_nil_of_le (by omega)] at hT
      obtain rfl : false = T := hT
      go_wp2_with fail
      go_ret
      exact ⟨rfl, F⟩
end Go.Proofs.YtkkohdmneognlaaGreatDoor
/- A configuration that came in holds numbers of 64 bits; how long its text is at most. -/
namespace Go.Proofs.YtkkohdmneognlaaGreatDoor
open Go.RowKit

theorem steps64 : ∀ (l : List St), (∀ s ∈ l, I64 [s.sec, s.inn, s.out]) → In64 (stepsL l)
  | [], _ => fun n hn => by cases hn
  | x :: r, h => fun n hn => by
    rw [stepsL, List.mem_append] at hn
    rcases hn with hn | hn
    · exact h x List.mem_cons_self n hn
    · exact steps64 r (fun s hs => h s (List.mem_cons_of_mem _ hs)) n hn
theorem needs64 : ∀ (l : List Nd), (∀ s ∈ l, I64 [s.sec, s.pos]) → In64 (needsL l)
  | [], _ => fun n hn => by cases hn
  | x :: r, h => fun n hn => by
    rw [needsL, List.mem_append] at hn
    rcases hn with hn | hn
    · exact h x List.mem_cons_self n hn
    · exact needs64 r (fun s hs => h s (List.mem_cons_of_mem _ hs)) n hn
theorem cf64_of {H : Type} {w : World} {C : Cm} {d : DataW H} (h : CfIn w C d) : Cf64 C.cf := by
  obtain ⟨h1, h2, h3, h4, h5, h6⟩ := h.n64
  refine ⟨h1, h2, h3, h4, fun r hr => ?_, h6⟩
  obtain ⟨q, hq, rfl⟩ := List.mem_map.1 hr
  obtain ⟨a, b, c, d⟩ := h5 q hq
  exact ⟨a, steps64 _ b, needs64 _ c, d⟩
theorem flat_most {α : Type} (f : α → List UInt8) (K : Nat) : ∀ (l : List α), (∀ x ∈ l, (f x).length ≤ K) → (l.flatMap f).length ≤ l.length * K
  | [], _ => by simp
  | x :: r, h => by
    have a := h x List.mem_cons_self
    have b := flat_most f K r fun y hy => h y (List.mem_cons_of_mem _ hy)
    rw [List.flatMap_cons, List.length_append, List.length_cons, Nat.succ_mul]
    omega
theorem rt_most {q : Ro} (h1 : In64 [q.entry, q.exit]) (h2 : In64 (stepsL q.path)) (h3 : In64 (needsL q.flank)) (h4 : In64 q.over) : (rtT q.rt).length ≤ q.total * 200 := by
  have a2 := numsM_length _ h2
  have a3 := numsM_length _ h3
  have a4 := numsM_length _ h4
  have a1 := numsM_length [q.entry, q.exit, digitM q.shunt] (fun n hn => by
    simp only [List.mem_cons, List.not_mem_nil, or_false] at hn
    rcases hn with rfl | rfl | rfl
    · exact h1 _ (by simp)
    · exact h1 _ (by simp)
    · unfold digitM; split <;> omega)
  rw [stepsL_length] at a2
  rw [needsL_length] at a3
  simp only [List.length_cons, List.length_nil] at a1
  unfold rtT rtRows rowM Ro.total
  simp only [Ro.rt, joinM, List.length_append, List.length_cons, List.length_nil]
  have w1 : wRt.length = 5 := rfl
  have w2 : wPath.length = 4 := rfl
  have w3 : wFlank.length = 5 := rfl
  have w4 : wOver.length = 7 := rfl
  omega
theorem rts_most : ∀ (l : List Ro), (∀ q ∈ l, In64 [q.entry, q.exit] ∧ In64 (stepsL q.path) ∧ In64 (needsL q.flank) ∧ In64 q.over) → ((l.map Ro.rt).flatMap rtT).length ≤ totalR l * 200
  | [], _ => by simp [totalR]
  | q :: r, h => by
    obtain ⟨a, b, c, d⟩ := h q List.mem_cons_self
    have k := rt_most a b c d
    have ih := rts_most r fun x hx => h x (List.mem_cons_of_mem _ hx)
    rw [List.map_cons, List.flatMap_cons, List.length_append, totalR, Nat.add_mul]
    omega
theorem text_most {C : Cm} (h : Cf64 C.cf) : (textM C.cf).length ≤ C.total * 200 + 200 := by
  have a1 := flat_most secT 200 C.l (fun s hs => by
    have := numsM_length _ (h.secs s hs)
    unfold secT rowM
    have w1 : wSec.length = 7 := rfl
    simp only [List.length_append, List.length_cons, List.length_nil] at *
    omega)
  have a2 := flat_most joT 200 C.js (fun s hs => by
    have := numsM_length _ (h.jos s hs)
    unfold joT rowM
    have w1 : wJo.length = 5 := rfl
    simp only [List.length_append, List.length_cons, List.length_nil] at *
    omega)
  have a3 := flat_most sgT 200 C.sg (fun s hs => by
    have := numsM_length _ (h.sigs s hs)
    unfold sgT rowM
    have w1 : wSg.length = 6 := rfl
    simp only [List.length_append, List.length_cons, List.length_nil] at *
    omega)
  have a4 := flat_most crT 200 C.cr (fun s hs => by
    have := numsM_length [s] (fun n hn => by
      simp only [List.mem_cons, List.not_mem_nil, or_false] at hn
      subst hn
      exact h.crs _ hs)
    unfold crT rowM
    have w1 : wCr.length = 8 := rfl
    simp only [List.length_append, List.length_cons, List.length_nil] at *
    omega)
  have a5 := rts_most C.rs fun q hq => h.rts q.rt (List.mem_map.2 ⟨q, hq, rfl⟩)
  have a6 := numsM_length _ h.tm
  have e : (textM C.cf).length = (C.l.flatMap secT).length + ((C.js.flatMap joT).length + ((C.sg.flatMap sgT).length + ((C.cr.flatMap crT).length + (((C.rs.map Ro.rt).flatMap rtT).length + (tmT C.tm).length)))) := by
    unfold textM
    simp only [List.length_append]
    rfl
  have e6 : (tmT C.tm).length = 6 + (numsM [C.tm.age, C.tm.brake, C.tm.hold, C.tm.budget]).length + 1 := by
    unfold tmT rowM
    simp only [List.length_append, List.length_cons, List.length_nil]
    rfl
  have a6' : (numsM [C.tm.age, C.tm.brake, C.tm.hold, C.tm.budget]).length ≤ 4 * 22 := a6
  rw [e, e6]
  unfold Cm.total
  omega
end Go.Proofs.YtkkohdmneognlaaGreatDoor
/- All that the last laws of stage 6 have in common. -/
namespace Go.Proofs.YtkkohdmneognlaaGreatDoor
theorem all7 : True := trivial
end Go.Proofs.YtkkohdmneognlaaGreatDoor

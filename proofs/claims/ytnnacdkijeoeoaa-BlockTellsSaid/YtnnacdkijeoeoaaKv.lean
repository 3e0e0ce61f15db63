/- Contracts and plain mathematics of earlier stages: Guard, Bar. -/
import Derived.Test.YtnnacdkijeoeoaaKd
import Derived.BigGuardPart
namespace Go.Proofs.Ytnnacdkijeoeoaa
open Go.RowKit

theorem lit_rd_at {w : World} {n : Nat} (h : w.heap.size = n) (cs : List Value) (t : TypeId) : Rd (w.alloc (.cells cs.toArray t)) (some ⟨n, 0, none⟩) cs := by
  subst h
  exact lit_rd w cs t
theorem is_new_at {w : World} {n : Nat} (h : w.heap.size = n) (t : TypeId) (cs : Array Value) : Is (w.alloc (.cells cs t)) n t cs := by
  subst h
  exact Is.new w t cs

def guardV (l : List Sec) (js : List Jo) (s e : Int) : Nd := if guardOk l js s e = true then guardN js s e else ⟨0, 0⟩
/-- how a guard may be: no next one; no section; no Point; no leg; a leg -/
theorem guard_ways (l : List Sec) (js : List Jo) (s e : Int) : (nextOk js s e = false ∧ guardOk l js s e = false ∧ guardV l js s e = ⟨0, 0⟩) ∨
    (nextOk js s e = true ∧ isSecB l.length (nextS js s e) = false ∧ guardOk l js s e = false ∧ guardV l js s e = ⟨0, 0⟩) ∨
    (nextOk js s e = true ∧ ∃ k : Nat, nextS js s e = k ∧ ∃ h : k < l.length, (l[k].kind != 1) = true ∧ guardOk l js s e = false ∧ guardV l js s e = ⟨0, 0⟩) ∨
    (nextOk js s e = true ∧ ∃ k : Nat, nextS js s e = k ∧ ∃ h : k < l.length, (l[k].kind != 1) = false ∧ (((nextE js s e == 1) = true ∧ guardOk l js s e = true ∧ guardV l js s e = ⟨k, 2⟩) ∨
      ((nextE js s e == 1) = false ∧ (nextE js s e == 2) = true ∧ guardOk l js s e = true ∧ guardV l js s e = ⟨k, 1⟩) ∨ ((nextE js s e == 1) = false ∧ (nextE js s e == 2) = false ∧ guardOk l js s e = false ∧ guardV l js s e = ⟨0, 0⟩))) := by
  have hv : ∀ b, guardOk l js s e = b → guardV l js s e = if b = true then guardN js s e else ⟨0, 0⟩ := by
    intro b hb
    unfold guardV
    rw [hb]
  cases hn : nextOk js s e
  · have hg : guardOk l js s e = false := by unfold guardOk; rw [hn]; rfl
    exact .inl ⟨rfl, hg, by rw [hv _ hg]; rfl⟩
  · refine .inr ?_
    cases hs : isSecB l.length (nextS js s e)
    · have hg : guardOk l js s e = false := by unfold guardOk; rw [hn, hs]; rfl
      exact .inl ⟨rfl, rfl, hg, by rw [hv _ hg]; rfl⟩
    · refine .inr ?_
      obtain ⟨k, ek, hk⟩ := isSecB_true hs
      have hg0 : guardOk l js s e = (decide (l[k].kind = 1) && (decide (nextE js s e = 1) || decide (nextE js s e = 2))) := by
        unfold guardOk
        rw [hn, hs, ek, Int.toNat_natCast, kindOf_at hk]
        rfl
      by_cases h1 : l[k].kind = 1
      · refine .inr ⟨rfl, k, ek, hk, by simp [h1], ?_⟩
        rw [h1] at hg0
        by_cases e1 : nextE js s e = 1
        · have hg : guardOk l js s e = true := by rw [hg0, e1]; rfl
          exact .inl ⟨by simp [e1], hg, by rw [hv _ hg, if_pos rfl]; unfold guardN; rw [ek, e1]; rfl⟩
        · by_cases e2 : nextE js s e = 2
          · have hg : guardOk l js s e = true := by rw [hg0, e2]; rfl
            exact .inr (.inl ⟨by simp [e1], by simp [e2], hg, by rw [hv _ hg, if_pos rfl]; unfold guardN; rw [ek, e2]; rfl⟩)
          · have hg : guardOk l js s e = false := by rw [hg0]; simp [e1, e2]
            exact .inr (.inr ⟨by simp [e1], by simp [e2], hg, by rw [hv _ hg]; rfl⟩)
      · have hg : guardOk l js s e = false := by rw [hg0]; simp [h1]
        exact .inl ⟨rfl, k, ek, hk, by simp [h1], hg, by rw [hv _ hg]; rfl⟩

set_option maxHeartbeats 1000000 in
theorem guard_any (C : Cm) (s e : Int) (w : World) (h : C.Ok w) :
    Calls Try.prog 79 #[C.val, .int .i64 s, .int .i64 e] w fun x w' => x = .returned (.tuple #[.agg #[.int .i64 (guardV C.l C.js s e).sec, .int .i64 (guardV C.l C.js s e).pos], .bool (guardOk C.l C.js s e)]) ∧ Fr (fun _ => False) w w' := by
  have b2 := h.b2
  have KN := fun w1 (f : Fr (fun _ => False) w w1) => next_any (c := C.c2) s e w1 (h.jos.fr f fun _ _ => id) (by omega)
  have KS := fun W => hass_any (A := C.A1) (c := C.c1) (n := C.l.length) (nextS C.js s e) W
  unfold Cm.val Cm.arr
  clear b2
  rcases guard_ways C.l C.js s e with ⟨hn, hg, hv⟩ | ⟨hn, hs, hg, hv⟩ | ⟨hn, k, ek, hk, hkd, hg, hv⟩ | ⟨hn, k, ek, hk, hkd, ⟨e1, hg, hv⟩ | ⟨e1, e2, hg, hv⟩ | ⟨e1, e2, hg, hv⟩⟩
  · rw [hn] at KN
    rw [hg, hv]
    clear hn hg hv KS
    generalize nextE C.js s e = E at *
    generalize nextS C.js s e = S at *
    go_enter Try.func79, Try.ntmps79
    go_wp2_with fail
    refine (KN _ (((Fr.refl _ _).alloc _).alloc _)).mono ?_
    clear KN
    rintro x w1 ⟨rfl, f1⟩
    have is0 := (Is.new w 97 #[.slice C.A1 C.l.length C.c1, .slice C.A2 C.js.length C.c2, .slice C.A3 C.sg.length C.c3, .slice C.A4 C.cr.length C.c4, .slice C.A5 C.rs.length C.c5, .int .i64 C.tm.age, .int .i64 C.tm.brake, .int .i64 C.tm.hold, .int .i64 C.tm.budget]).alloc (.cells #[.int .i64 0, .int .i64 0] 120)
    have is1 := is0.fr f1 id
    have k0 := is1.cell 0
    have is2 := (is_new_at (show (w.alloc (.cells #[.slice C.A1 C.l.length C.c1, .slice C.A2 C.js.length C.c2, .slice C.A3 C.sg.length C.c3, .slice C.A4 C.cr.length C.c4, .slice C.A5 C.rs.length C.c5, .int .i64 C.tm.age, .int .i64 C.tm.brake, .int .i64 C.tm.hold, .int .i64 C.tm.budget] 97)).heap.size = w.heap.size + 1 by simp) 120 #[.int .i64 0, .int .i64 0]).fr f1 id
    have m0 := is2.cell 0
    have m1 := is2.cell 1
    have z0 := is2.frozen 0
    have z1 := is2.frozen 1
    have hz := is2.lt
    have F : Fr (fun _ => False) w w1 := fr_nil (((Fr.refl _ _).alloc _).alloc _) f1
    clear is0 is1 is2 f1 h
    go_wp2_with fail
    exact bodyPost_ret (v := .tuple #[.agg #[.int .i64 0, .int .i64 0], .bool false]) (by simp [results, Try.results79, go_sem, m0, m1]) rfl ⟨rfl, by first | exact F | exact (F.setCell (p := ⟨w.heap.size + 1, 0, none⟩) (.inr (by simp)) _).setCell (p := ⟨w.heap.size + 1, 1, none⟩) (.inr (by simp)) _⟩

  · rw [hn] at KN
    rw [hg, hv]
    rw [hs] at KS
    clear hn hg hv hs
    generalize nextE C.js s e = E at *
    generalize nextS C.js s e = S at *
    go_enter Try.func79, Try.ntmps79
    go_wp2_with fail
    refine (KN _ (((Fr.refl _ _).alloc _).alloc _)).mono ?_
    clear KN
    rintro x w1 ⟨rfl, f1⟩
    have is0 := (Is.new w 97 #[.slice C.A1 C.l.length C.c1, .slice C.A2 C.js.length C.c2, .slice C.A3 C.sg.length C.c3, .slice C.A4 C.cr.length C.c4, .slice C.A5 C.rs.length C.c5, .int .i64 C.tm.age, .int .i64 C.tm.brake, .int .i64 C.tm.hold, .int .i64 C.tm.budget]).alloc (.cells #[.int .i64 0, .int .i64 0] 120)
    have is1 := is0.fr f1 id
    have k0 := is1.cell 0
    have is2 := (is_new_at (show (w.alloc (.cells #[.slice C.A1 C.l.length C.c1, .slice C.A2 C.js.length C.c2, .slice C.A3 C.sg.length C.c3, .slice C.A4 C.cr.length C.c4, .slice C.A5 C.rs.length C.c5, .int .i64 C.tm.age, .int .i64 C.tm.brake, .int .i64 C.tm.hold, .int .i64 C.tm.budget] 97)).heap.size = w.heap.size + 1 by simp) 120 #[.int .i64 0, .int .i64 0]).fr f1 id
    have m0 := is2.cell 0
    have m1 := is2.cell 1
    have z0 := is2.frozen 0
    have z1 := is2.frozen 1
    have hz := is2.lt
    have F : Fr (fun _ => False) w w1 := fr_nil (((Fr.refl _ _).alloc _).alloc _) f1
    clear is0 is1 is2 f1 h
    go_wp2_with fail
    refine (KS _).mono ?_
    clear KS
    rintro x w2 ⟨rfl, rfl⟩
    go_wp2_with fail
    exact bodyPost_ret (v := .tuple #[.agg #[.int .i64 0, .int .i64 0], .bool false]) (by simp [results, Try.results79, go_sem, m0, m1]) rfl ⟨rfl, by first | exact F | exact (F.setCell (p := ⟨w.heap.size + 1, 0, none⟩) (.inr (by simp)) _).setCell (p := ⟨w.heap.size + 1, 1, none⟩) (.inr (by simp)) _⟩

  · rw [hn, ek] at KN
    rw [hg, hv]
    rw [ek, isSecB_nat hk] at KS
    obtain ⟨g, o, hA, q0, _, _⟩ := rd_sec h.secs hk
    rw [hA] at KS ⊢
    have hgl := World.block_lt_of_cell? _ ⟨g, o + k * 3, none⟩ q0
    generalize C.l[k].kind = kd at *
    clear hn hg hv ek hA
    generalize nextE C.js s e = E at *
    go_enter Try.func79, Try.ntmps79
    go_wp2_with fail
    refine (KN _ (((Fr.refl _ _).alloc _).alloc _)).mono ?_
    clear KN
    rintro x w1 ⟨rfl, f1⟩
    have is0 := (Is.new w 97 #[.slice (some ⟨g, o, none⟩) C.l.length C.c1, .slice C.A2 C.js.length C.c2, .slice C.A3 C.sg.length C.c3, .slice C.A4 C.cr.length C.c4, .slice C.A5 C.rs.length C.c5, .int .i64 C.tm.age, .int .i64 C.tm.brake, .int .i64 C.tm.hold, .int .i64 C.tm.budget]).alloc (.cells #[.int .i64 0, .int .i64 0] 120)
    have is1 := is0.fr f1 id
    have k0 := is1.cell 0
    have is2 := (is_new_at (show (w.alloc (.cells #[.slice (some ⟨g, o, none⟩) C.l.length C.c1, .slice C.A2 C.js.length C.c2, .slice C.A3 C.sg.length C.c3, .slice C.A4 C.cr.length C.c4, .slice C.A5 C.rs.length C.c5, .int .i64 C.tm.age, .int .i64 C.tm.brake, .int .i64 C.tm.hold, .int .i64 C.tm.budget] 97)).heap.size = w.heap.size + 1 by simp) 120 #[.int .i64 0, .int .i64 0]).fr f1 id
    have m0 := is2.cell 0
    have m1 := is2.cell 1
    have z0 := is2.frozen 0
    have z1 := is2.frozen 1
    have hz := is2.lt
    have q1 : w1.cell? ⟨g, o + k * 3, none⟩ = some (.int .i64 kd) := ((fr_nil (((Fr.refl _ _).alloc _).alloc _) f1).cell (p := ⟨g, o + k * 3, none⟩) hgl id).trans q0
    clear q0
    have F : Fr (fun _ => False) w w1 := fr_nil (((Fr.refl _ _).alloc _).alloc _) f1
    clear is0 is1 is2 f1 h
    go_wp2_with fail
    refine (KS _).mono ?_
    clear KS
    rintro x w2 ⟨rfl, rfl⟩
    go_wp2_with fail
    exact bodyPost_ret (v := .tuple #[.agg #[.int .i64 0, .int .i64 0], .bool false]) (by simp [results, Try.results79, go_sem, m0, m1]) rfl ⟨rfl, by first | exact F | exact (F.setCell (p := ⟨w.heap.size + 1, 0, none⟩) (.inr (by simp)) _).setCell (p := ⟨w.heap.size + 1, 1, none⟩) (.inr (by simp)) _⟩

  · rw [hn, ek] at KN
    rw [hg, hv]
    rw [ek, isSecB_nat hk] at KS
    obtain ⟨g, o, hA, q0, _, _⟩ := rd_sec h.secs hk
    rw [hA] at KS ⊢
    have hgl := World.block_lt_of_cell? _ ⟨g, o + k * 3, none⟩ q0
    generalize C.l[k].kind = kd at *
    clear hn hg hv ek hA
    generalize nextE C.js s e = E at *
    go_enter Try.func79, Try.ntmps79
    go_wp2_with fail
    refine (KN _ (((Fr.refl _ _).alloc _).alloc _)).mono ?_
    clear KN
    rintro x w1 ⟨rfl, f1⟩
    have is0 := (Is.new w 97 #[.slice (some ⟨g, o, none⟩) C.l.length C.c1, .slice C.A2 C.js.length C.c2, .slice C.A3 C.sg.length C.c3, .slice C.A4 C.cr.length C.c4, .slice C.A5 C.rs.length C.c5, .int .i64 C.tm.age, .int .i64 C.tm.brake, .int .i64 C.tm.hold, .int .i64 C.tm.budget]).alloc (.cells #[.int .i64 0, .int .i64 0] 120)
    have is1 := is0.fr f1 id
    have k0 := is1.cell 0
    have is2 := (is_new_at (show (w.alloc (.cells #[.slice (some ⟨g, o, none⟩) C.l.length C.c1, .slice C.A2 C.js.length C.c2, .slice C.A3 C.sg.length C.c3, .slice C.A4 C.cr.length C.c4, .slice C.A5 C.rs.length C.c5, .int .i64 C.tm.age, .int .i64 C.tm.brake, .int .i64 C.tm.hold, .int .i64 C.tm.budget] 97)).heap.size = w.heap.size + 1 by simp) 120 #[.int .i64 0, .int .i64 0]).fr f1 id
    have m0 := is2.cell 0
    have m1 := is2.cell 1
    have z0 := is2.frozen 0
    have z1 := is2.frozen 1
    have hz := is2.lt
    have q1 : w1.cell? ⟨g, o + k * 3, none⟩ = some (.int .i64 kd) := ((fr_nil (((Fr.refl _ _).alloc _).alloc _) f1).cell (p := ⟨g, o + k * 3, none⟩) hgl id).trans q0
    clear q0
    have F : Fr (fun _ => False) w w1 := fr_nil (((Fr.refl _ _).alloc _).alloc _) f1
    clear is0 is1 is2 f1 h
    go_wp2_with fail
    refine (KS _).mono ?_
    clear KS
    rintro x w2 ⟨rfl, rfl⟩
    go_wp2_with fail
    exact bodyPost_ret (v := .tuple #[.agg #[.int .i64 k, .int .i64 2], .bool true]) (by simp [results, Try.results79, go_sem, m0, m1]) rfl ⟨rfl, by first | exact F | exact (F.setCell (p := ⟨w.heap.size + 1, 0, none⟩) (.inr (by simp)) _).setCell (p := ⟨w.heap.size + 1, 1, none⟩) (.inr (by simp)) _⟩

  · rw [hn, ek] at KN
    rw [hg, hv]
    rw [ek, isSecB_nat hk] at KS
    obtain ⟨g, o, hA, q0, _, _⟩ := rd_sec h.secs hk
    rw [hA] at KS ⊢
    have hgl := World.block_lt_of_cell? _ ⟨g, o + k * 3, none⟩ q0
    generalize C.l[k].kind = kd at *
    clear hn hg hv ek hA
    generalize nextE C.js s e = E at *
    go_enter Try.func79, Try.ntmps79
    go_wp2_with fail
    refine (KN _ (((Fr.refl _ _).alloc _).alloc _)).mono ?_
    clear KN
    rintro x w1 ⟨rfl, f1⟩
    have is0 := (Is.new w 97 #[.slice (some ⟨g, o, none⟩) C.l.length C.c1, .slice C.A2 C.js.length C.c2, .slice C.A3 C.sg.length C.c3, .slice C.A4 C.cr.length C.c4, .slice C.A5 C.rs.length C.c5, .int .i64 C.tm.age, .int .i64 C.tm.brake, .int .i64 C.tm.hold, .int .i64 C.tm.budget]).alloc (.cells #[.int .i64 0, .int .i64 0] 120)
    have is1 := is0.fr f1 id
    have k0 := is1.cell 0
    have is2 := (is_new_at (show (w.alloc (.cells #[.slice (some ⟨g, o, none⟩) C.l.length C.c1, .slice C.A2 C.js.length C.c2, .slice C.A3 C.sg.length C.c3, .slice C.A4 C.cr.length C.c4, .slice C.A5 C.rs.length C.c5, .int .i64 C.tm.age, .int .i64 C.tm.brake, .int .i64 C.tm.hold, .int .i64 C.tm.budget] 97)).heap.size = w.heap.size + 1 by simp) 120 #[.int .i64 0, .int .i64 0]).fr f1 id
    have m0 := is2.cell 0
    have m1 := is2.cell 1
    have z0 := is2.frozen 0
    have z1 := is2.frozen 1
    have hz := is2.lt
    have q1 : w1.cell? ⟨g, o + k * 3, none⟩ = some (.int .i64 kd) := ((fr_nil (((Fr.refl _ _).alloc _).alloc _) f1).cell (p := ⟨g, o + k * 3, none⟩) hgl id).trans q0
    clear q0
    have F : Fr (fun _ => False) w w1 := fr_nil (((Fr.refl _ _).alloc _).alloc _) f1
    clear is0 is1 is2 f1 h
    go_wp2_with fail
    refine (KS _).mono ?_
    clear KS
    rintro x w2 ⟨rfl, rfl⟩
    go_wp2_with fail
    exact bodyPost_ret (v := .tuple #[.agg #[.int .i64 k, .int .i64 1], .bool true]) (by simp [results, Try.results79, go_sem, m0, m1]) rfl ⟨rfl, by first | exact F | exact (F.setCell (p := ⟨w.heap.size + 1, 0, none⟩) (.inr (by simp)) _).setCell (p := ⟨w.heap.size + 1, 1, none⟩) (.inr (by simp)) _⟩

  · rw [hn, ek] at KN
    rw [hg, hv]
    rw [ek, isSecB_nat hk] at KS
    obtain ⟨g, o, hA, q0, _, _⟩ := rd_sec h.secs hk
    rw [hA] at KS ⊢
    have hgl := World.block_lt_of_cell? _ ⟨g, o + k * 3, none⟩ q0
    generalize C.l[k].kind = kd at *
    clear hn hg hv ek hA
    generalize nextE C.js s e = E at *
    go_enter Try.func79, Try.ntmps79
    go_wp2_with fail
    refine (KN _ (((Fr.refl _ _).alloc _).alloc _)).mono ?_
    clear KN
    rintro x w1 ⟨rfl, f1⟩
    have is0 := (Is.new w 97 #[.slice (some ⟨g, o, none⟩) C.l.length C.c1, .slice C.A2 C.js.length C.c2, .slice C.A3 C.sg.length C.c3, .slice C.A4 C.cr.length C.c4, .slice C.A5 C.rs.length C.c5, .int .i64 C.tm.age, .int .i64 C.tm.brake, .int .i64 C.tm.hold, .int .i64 C.tm.budget]).alloc (.cells #[.int .i64 0, .int .i64 0] 120)
    have is1 := is0.fr f1 id
    have k0 := is1.cell 0
    have is2 := (is_new_at (show (w.alloc (.cells #[.slice (some ⟨g, o, none⟩) C.l.length C.c1, .slice C.A2 C.js.length C.c2, .slice C.A3 C.sg.length C.c3, .slice C.A4 C.cr.length C.c4, .slice C.A5 C.rs.length C.c5, .int .i64 C.tm.age, .int .i64 C.tm.brake, .int .i64 C.tm.hold, .int .i64 C.tm.budget] 97)).heap.size = w.heap.size + 1 by simp) 120 #[.int .i64 0, .int .i64 0]).fr f1 id
    have m0 := is2.cell 0
    have m1 := is2.cell 1
    have z0 := is2.frozen 0
    have z1 := is2.frozen 1
    have hz := is2.lt
    have q1 : w1.cell? ⟨g, o + k * 3, none⟩ = some (.int .i64 kd) := ((fr_nil (((Fr.refl _ _).alloc _).alloc _) f1).cell (p := ⟨g, o + k * 3, none⟩) hgl id).trans q0
    clear q0
    have F : Fr (fun _ => False) w w1 := fr_nil (((Fr.refl _ _).alloc _).alloc _) f1
    clear is0 is1 is2 f1 h
    go_wp2_with fail
    refine (KS _).mono ?_
    clear KS
    rintro x w2 ⟨rfl, rfl⟩
    go_wp2_with fail
    exact bodyPost_ret (v := .tuple #[.agg #[.int .i64 0, .int .i64 0], .bool false]) (by simp [results, Try.results79, go_sem, m0, m1]) rfl ⟨rfl, by first | exact F | exact (F.setCell (p := ⟨w.heap.size + 1, 0, none⟩) (.inr (by simp)) _).setCell (p := ⟨w.heap.size + 1, 1, none⟩) (.inr (by simp)) _⟩

end Go.Proofs.Ytnnacdkijeoeoaa

namespace Go.Proofs.Ytnnacdkijeoeoaa
open Go.RowKit

/-- A row of Bools that the call made. -/
def Bars (w : World) (n : Nat) (L : List Bool) (e : Ending) (w' : World) : Prop := ∃ g, e = .returned (.slice (some ⟨g, 0, none⟩) n n) ∧ w.heap.size ≤ g ∧ Is w' g 4 (cellsB L) ∧ Fr (fun _ => False) w w'

theorem bset_yes {b : List Bool} {k : Nat} (h : k < b.length) : bset b k = b.set k true := by
  unfold bset
  rw [isSecB_nat h, if_pos rfl, Int.toNat_natCast]
theorem bset_no {b : List Bool} {s : Int} (h : isSecB b.length s = false) : bset b s = b := by
  unfold bset
  rw [h, if_neg (by decide)]

set_option maxHeartbeats 2000000 in
theorem barred_any (C : Cm) (ap : Int) {A : Option Addr} {c : Nat} (path : List St) (w : World) (h : C.Ok w) (hp : Rd w A (cellsT path)) (hl : path.length ≤ 9223372036854775807) :
    Calls Try.prog 77 #[C.val, .int .i64 ap, .slice A path.length c] w (Bars w C.l.length (barM C.l.length ap path)) := by
  have b1 := h.b1
  have hmk := make_bools C.l.length (by omega)
  generalize hcs : cellsB (List.replicate C.l.length false) = cs at hmk
  have HC := Lib.hid hcs
  clear hcs
  unfold barM Cm.val Cm.arr
  generalize hT : bsetL path (bset (List.replicate C.l.length false) ap) = T
  have HT := Lib.hid hT
  clear hT
  have hlen : (bset (List.replicate C.l.length false) ap).length = C.l.length := by rw [bset_length, List.length_replicate]
  have HL := Lib.hid hlen
  clear hlen
  generalize C.l.length = n at *
  have KB := fun W => hasb_any (A := some ⟨w.heap.size + 1, 0, none⟩) (c := n) (n := n) ap W
  cases hs : isSecB n ap
  · rw [hs] at KB
    have hb0 := bset_no (b := List.replicate n false) (s := ap) (by rw [List.length_replicate]; exact hs)
    have HB := Lib.hid hb0
    clear hs hb0 b1
    go_enter Try.func77, Try.ntmps77
    go_wp2_with fail
    refine (KB _).mono ?_
    clear KB hmk
    rintro x w1 ⟨rfl, rfl⟩
    go_wp2_with fail
    go_loopw [23] (fun i wr => ∃ k b, k ≤ path.length ∧ i = .int .i64 (k : Nat) ∧ b.length = n ∧ bsetL (path.drop k) b = T ∧ Is wr (w.heap.size + 1) 4 (cellsB b) ∧ Fr (fun _ => False) w wr) (fun i _ => path.length - (intOf i).toNat)
    case atStart => exact ⟨0, _, Nat.zero_le _, rfl, HL.out, HT.out, by rw [HB.out, HC.out]; exact is_new_at (by simp) _ _, ((Fr.refl _ _).alloc _).alloc _⟩
    case round =>
      clear HB HC HT HL
      obtain ⟨k, b, hk, rfl, hbl, hT, his, fr⟩ := hrel
      by_cases hlt : k < path.length
      · have KS := fun W => hasb_any (A := some ⟨w.heap.size + 1, 0, none⟩) (c := n) (n := n) path[k].sec W
        obtain ⟨g, o, rfl, q0, q1, q2⟩ := rd_st hp hlt
        have hg := World.block_lt_of_cell? _ ⟨g, o + k * 3, none⟩ q0
        have q0' : wr.cell? ⟨g, o + k * 3, none⟩ = some (.int .i64 path[k].sec) := (fr.cell (p := ⟨g, o + k * 3, none⟩) hg id).trans q0
        have q1' : wr.cell? ⟨g, o + k * 3 + 1, none⟩ = some (.int .i64 path[k].inn) := (fr.cell (p := ⟨g, o + k * 3 + 1, none⟩) hg id).trans q1
        have q2' : wr.cell? ⟨g, o + k * 3 + 2, none⟩ = some (.int .i64 path[k].out) := (fr.cell (p := ⟨g, o + k * 3 + 2, none⟩) hg id).trans q2
        rw [List.drop_eq_getElem_cons hlt, bsetL] at hT
        generalize path[k] = v at *
        obtain ⟨vs, vi, vo⟩ := v
        simp only at *
        clear q0 q1 q2 hp
        cases hsv : isSecB n vs
        · rw [hsv] at KS
          rw [bset_no (by rw [hbl]; exact hsv)] at hT
          have HT := Lib.hid hT
          have HBL := Lib.hid hbl
          clear hsv hT hbl
          go_wp2_with fail
          refine (KS _).mono ?_
          rintro x w2 ⟨rfl, rfl⟩
          go_wp2_with fail
          go_roundw
          case rel => exact ⟨k + 1, b, by omega, by go_num, HBL.out, HT.out, his.alloc _, fr.alloc _⟩
          case measure => simp [intOf]; omega
        · rw [hsv] at KS
          obtain ⟨j, rfl, hj⟩ := isSecB_true hsv
          rw [bset_yes (by rw [hbl]; exact hj)] at hT
          have k0 := (his.cell j).trans (cellsB_at (by omega))
          have kf := his.frozen j
          have hb := his.lt
          have his2 := his.set j (.bool true)
          rw [cellsB_set] at his2
          have HT := Lib.hid hT
          have HBL := Lib.hid hbl
          clear hsv hT hbl
          go_wp2_with fail
          refine (KS _).mono ?_
          rintro x w2 ⟨rfl, rfl⟩
          go_wp2_with fail
          go_roundw
          case rel => exact ⟨k + 1, b.set j true, by omega, by go_num, by rw [List.length_set]; exact HBL.out, HT.out, his2.alloc _, (fr.setCell (p := ⟨w.heap.size + 1, j, none⟩) (.inr (by simp)) _).alloc _⟩
          case measure => simp [intOf]; omega
      · rw [List.drop_eq_nil_of_le (by omega)] at hT
        obtain rfl : b = T := hT
        go_wp2_with fail
        go_ret
        exact ⟨w.heap.size + 1, rfl, by simp, his, fr⟩
  · rw [hs] at KB
    obtain ⟨q, rfl, hq⟩ := isSecB_true hs
    have hb0 := bset_yes (b := List.replicate n false) (k := q) (by rw [List.length_replicate]; exact hq)
    have HB := Lib.hid hb0
    have q00 : cs[q]? = some (.bool (seenAt (List.replicate n false) q)) := by rw [← HC.out]; exact cellsB_at (by rw [List.length_replicate]; exact hq)
    have q01 : q < cs.size := by rcases Nat.lt_or_ge q cs.size with h | h; exact h; rw [Array.getElem?_eq_none h] at q00; cases q00
    clear hs hb0 b1
    go_enter Try.func77, Try.ntmps77
    go_wp2_with fail
    refine (KB _).mono ?_
    clear KB hmk
    rintro x w1 ⟨rfl, rfl⟩
    go_wp2_with fail
    go_loopw [23] (fun i wr => ∃ k b, k ≤ path.length ∧ i = .int .i64 (k : Nat) ∧ b.length = n ∧ bsetL (path.drop k) b = T ∧ Is wr (w.heap.size + 1) 4 (cellsB b) ∧ Fr (fun _ => False) w wr) (fun i _ => path.length - (intOf i).toNat)
    case atStart => exact ⟨0, _, Nat.zero_le _, rfl, HL.out, HT.out, by rw [HB.out, ← cellsB_set, HC.out]; exact is_new_at (by simp) _ _, ((Fr.refl _ _).alloc _).alloc _⟩
    case round =>
      clear HB HC HT HL
      obtain ⟨k, b, hk, rfl, hbl, hT, his, fr⟩ := hrel
      by_cases hlt : k < path.length
      · have KS := fun W => hasb_any (A := some ⟨w.heap.size + 1, 0, none⟩) (c := n) (n := n) path[k].sec W
        obtain ⟨g, o, rfl, q0, q1, q2⟩ := rd_st hp hlt
        have hg := World.block_lt_of_cell? _ ⟨g, o + k * 3, none⟩ q0
        have q0' : wr.cell? ⟨g, o + k * 3, none⟩ = some (.int .i64 path[k].sec) := (fr.cell (p := ⟨g, o + k * 3, none⟩) hg id).trans q0
        have q1' : wr.cell? ⟨g, o + k * 3 + 1, none⟩ = some (.int .i64 path[k].inn) := (fr.cell (p := ⟨g, o + k * 3 + 1, none⟩) hg id).trans q1
        have q2' : wr.cell? ⟨g, o + k * 3 + 2, none⟩ = some (.int .i64 path[k].out) := (fr.cell (p := ⟨g, o + k * 3 + 2, none⟩) hg id).trans q2
        rw [List.drop_eq_getElem_cons hlt, bsetL] at hT
        generalize path[k] = v at *
        obtain ⟨vs, vi, vo⟩ := v
        simp only at *
        clear q0 q1 q2 hp
        cases hsv : isSecB n vs
        · rw [hsv] at KS
          rw [bset_no (by rw [hbl]; exact hsv)] at hT
          have HT := Lib.hid hT
          have HBL := Lib.hid hbl
          clear hsv hT hbl
          go_wp2_with fail
          refine (KS _).mono ?_
          rintro x w2 ⟨rfl, rfl⟩
          go_wp2_with fail
          go_roundw
          case rel => exact ⟨k + 1, b, by omega, by go_num, HBL.out, HT.out, his.alloc _, fr.alloc _⟩
          case measure => simp [intOf]; omega
        · rw [hsv] at KS
          obtain ⟨j, rfl, hj⟩ := isSecB_true hsv
          rw [bset_yes (by rw [hbl]; exact hj)] at hT
          have k0 := (his.cell j).trans (cellsB_at (by omega))
          have kf := his.frozen j
          have hb := his.lt
          have his2 := his.set j (.bool true)
          rw [cellsB_set] at his2
          have HT := Lib.hid hT
          have HBL := Lib.hid hbl
          clear hsv hT hbl
          go_wp2_with fail
          refine (KS _).mono ?_
          rintro x w2 ⟨rfl, rfl⟩
          go_wp2_with fail
          go_roundw
          case rel => exact ⟨k + 1, b.set j true, by omega, by go_num, by rw [List.length_set]; exact HBL.out, HT.out, his2.alloc _, (fr.setCell (p := ⟨w.heap.size + 1, j, none⟩) (.inr (by simp)) _).alloc _⟩
          case measure => simp [intOf]; omega
      · rw [List.drop_eq_nil_of_le (by omega)] at hT
        obtain rfl : b = T := hT
        go_wp2_with fail
        go_ret
        exact ⟨w.heap.size + 1, rfl, by simp, his, fr⟩
end Go.Proofs.Ytnnacdkijeoeoaa


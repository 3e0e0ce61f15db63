/- The contracts of package mover's Start, Command, within, Proven, of the document's own, and of lives. -/
import Derived.Test.YtbjbkaphigolnaaKa
namespace Go.Proofs.Ytbjbkaphigolnaa.Mv
open Go.RowKit

/-- A number as a time: brought between -1 and 2^62. -/
def wz (x : Int) : Int := if x < -1 then -1 else if 4611686018427387904 < x then 4611686018427387904 else x
theorem wz_bd (x : Int) : -1 ≤ wz x ∧ wz x ≤ 4611686018427387904 := by unfold wz; split <;> (try split) <;> omega
theorem wz_in (x : Int) (h : -1 ≤ x) (h2 : x ≤ 4611686018427387904) : wz x = x := by unfold wz; rw [if_neg (by omega), if_neg (by omega)]

theorem ret_int {k : IntKind} {a b : Int} (h : a = b) : Ending.returned (.int k a) = .returned (.int k b) := by rw [h]
theorem within_any (x : Int) (w : World) : Calls Try.prog 20 #[.int .i64 x] w fun e w' => e = .returned (.int .i64 (wz x)) ∧ w = w' := by
  obtain ⟨y, hy, hz⟩ : ∃ y, (if x < -1 then -1 else x) = y ∧ Hid (wz x = if 4611686018427387904 < y then 4611686018427387904 else y) := ⟨_, rfl, Lib.hid (by unfold wz; split <;> (try split) <;> (try omega))⟩
  go_enter Try.func20, Try.ntmps20
  go_wp2_with fail
  · go_ret
    exact ⟨ret_int (by rw [hz.out, if_pos (by omega)]), rfl⟩
  · go_ret
    exact ⟨ret_int (by rw [hz.out, if_neg (by omega)]), rfl⟩
theorem rwithin_any (x : Int) (w : World) : Calls Try.prog 21 #[.int .i64 x] w fun e w' => e = .returned (.int .i64 (wz x)) ∧ w = w' := by
  obtain ⟨y, hy, hz⟩ : ∃ y, (if x < -1 then -1 else x) = y ∧ Hid (wz x = if 4611686018427387904 < y then 4611686018427387904 else y) := ⟨_, rfl, Lib.hid (by unfold wz; split <;> (try split) <;> (try omega))⟩
  go_enter Try.func21, Try.ntmps21
  go_wp2_with fail
  · go_ret
    exact ⟨ret_int (by rw [hz.out, if_pos (by omega)]), rfl⟩
  · go_ret
    exact ⟨ret_int (by rw [hz.out, if_neg (by omega)]), rfl⟩

/-- a mover as a value -/
def mv (c o : Int) : Value := .agg #[.int .i64 c, .int .i64 o]
/-- a look as a value -/
def lk (v s : Int) (q : Bool) : Value := .agg #[.int .i64 v, .int .i64 s, .bool q]
theorem start_any (n : Int) (w : World) : Calls Try.prog 8 #[.int .i64 n] w fun e w' => e = .returned (.agg #[.int .i64 0, .int .i64 n]) ∧ Fr (fun _ => False) w w' := by
  have HF := Lib.hid ((Fr.refl (fun _ => False) w).alloc (.cells #[.int .i64 0, .int .i64 n] 23))
  go_enter Try.func8, Try.ntmps8
  go_wp2_with fail
  exact bodyPost_ret (v := .agg #[.int .i64 0, .int .i64 n]) (by simp [results, Try.results8, go_sem]) rfl ⟨rfl, HF.out⟩
theorem command_any (c o now cmd : Int) (w : World) : Calls Try.prog 9 #[.agg #[.int .i64 c, .int .i64 o], .int .i64 now, .int .i64 cmd] w fun e w' => e = .returned (.agg #[.int .i64 cmd, .int .i64 (if c = cmd then o else now)]) ∧ Fr (fun _ => False) w w' := by
  by_cases h : c = cmd
  · subst h
    rw [if_pos rfl]
    have HF := Lib.hid (((Fr.refl (fun _ => False) w).alloc (.cells #[.int .i64 c, .int .i64 o] 23)).alloc (.cells #[.int .i64 c, .int .i64 o] 23))
    go_enter Try.func9, Try.ntmps9
    go_wp2_with fail
    exact bodyPost_ret (v := .agg #[.int .i64 c, .int .i64 o]) (by simp [results, Try.results9, go_sem]) rfl ⟨rfl, HF.out⟩
  · rw [if_neg h]
    have hb : (c == cmd) = false := by simpa using h
    have HF := Lib.hid (((Fr.refl (fun _ => False) w).alloc (.cells #[.int .i64 c, .int .i64 o] 23)).alloc (.cells #[.int .i64 cmd, .int .i64 now] 23))
    clear h
    go_enter Try.func9, Try.ntmps9
    go_wp2_with fail
    exact bodyPost_ret (v := .agg #[.int .i64 cmd, .int .i64 now]) (by simp [results, Try.results9, go_sem]) rfl ⟨rfl, HF.out⟩
theorem rcommand_any (c o now cmd : Int) (w : World) : Calls Try.prog 10 #[.agg #[.int .i64 c, .int .i64 o], .int .i64 now, .int .i64 cmd] w fun e w' => e = .returned (.agg #[.int .i64 cmd, .int .i64 (if c = cmd then o else now)]) ∧ Fr (fun _ => False) w w' := by
  by_cases h : c = cmd
  · subst h
    rw [if_pos rfl]
    have HF := Lib.hid (((Fr.refl (fun _ => False) w).alloc (.cells #[.int .i64 c, .int .i64 o] 23)).alloc (.cells #[.int .i64 c, .int .i64 o] 23))
    go_enter Try.func10, Try.ntmps10
    go_wp2_with fail
    exact bodyPost_ret (v := .agg #[.int .i64 c, .int .i64 o]) (by simp [results, Try.results10, go_sem]) rfl ⟨rfl, HF.out⟩
  · rw [if_neg h]
    have hb : (c == cmd) = false := by simpa using h
    have HF := Lib.hid (((Fr.refl (fun _ => False) w).alloc (.cells #[.int .i64 c, .int .i64 o] 23)).alloc (.cells #[.int .i64 cmd, .int .i64 now] 23))
    clear h
    go_enter Try.func10, Try.ntmps10
    go_wp2_with fail
    exact bodyPost_ret (v := .agg #[.int .i64 cmd, .int .i64 now]) (by simp [results, Try.results10, go_sem]) rfl ⟨rfl, HF.out⟩

/-- Proven, as plain data: mover (c, o), look (v, s, q), age. -/
def pv (c o v s : Int) (q : Bool) (age : Int) : Bool := q && (c != 0 && (c == v && decide (wz age < wz s - wz o)))
set_option maxHeartbeats 2000000 in
theorem proven_any (c o v s : Int) (q : Bool) (age : Int) (w : World) : Calls Try.prog 11 #[.agg #[.int .i64 c, .int .i64 o], .agg #[.int .i64 v, .int .i64 s, .bool q], .int .i64 age] w fun e w' => e = .returned (.bool (pv c o v s q age)) ∧ Fr (fun _ => False) w w' := by
  have b1 := wz_bd s
  have b2 := wz_bd o
  have hs : wrap64 (wz s - wz o) = wz s - wz o := IntWalk.wrap64_in _ ⟨by omega, by omega⟩
  have HP : Hid (pv c o v s q age = (q && (c != 0 && (c == v && decide (wz age < wz s - wz o))))) := Lib.hid rfl
  have K := within_any
  have HF : ∀ n, Hid (Fr (fun _ => False) w (((w.alloc (.cells #[.int .i64 c, .int .i64 o] 23)).alloc (.cells #[.int .i64 v, .int .i64 s, .bool q] 25)).drewN n)) := fun n => Lib.hid ((((Fr.refl (fun _ => False) w).alloc _).alloc _).drewN n)
  cases q with
  | false =>
    go_enter Try.func11, Try.ntmps11
    go_wp2_with fail
    go_quiet (fail)
    go_wp2_with fail
    go_ret
    exact ⟨by rw [HP.out]; rfl, (HF _).out⟩
  | true =>
    by_cases h0 : c = 0
    · subst h0
      go_enter Try.func11, Try.ntmps11
      go_wp2_with fail
      go_quiet (fail)
      go_wp2_with fail
      go_ret
      exact ⟨by rw [HP.out]; rfl, (HF _).out⟩
    · have d0 : (c == 0) = false := by simpa using h0
      have d0' : (c != 0) = true := by simpa using h0
      by_cases h1 : c = v
      · subst h1
        have HP2 : Hid (pv c o c s true age = decide (wz age < wz s - wz o)) := Lib.hid (by rw [HP.out, d0', beq_self_eq_true]; rfl)
        clear HP h0
        generalize pv c o c s true age = r at *
        go_enter Try.func11, Try.ntmps11
        go_wp2_with fail
        go_quiet ((go_at_call 20; exact Calls.quiet_of_same ((K _ _).mono fun _ _ ⟨a, b⟩ => ⟨a, b.symm⟩)))
        go_wp2_with fail
        go_ret
        exact ⟨by rw [HP2.out]; rfl, (HF _).out⟩
      · have d1 : (c == v) = false := by simpa using h1
        have HP2 : Hid (pv c o v s true age = false) := Lib.hid (by rw [HP.out, d0', d1]; rfl)
        clear HP h0 h1
        go_enter Try.func11, Try.ntmps11
        go_wp2_with fail
        go_quiet (fail)
        go_wp2_with fail
        go_ret
        exact ⟨by rw [HP2.out]; rfl, (HF _).out⟩
set_option maxHeartbeats 2000000 in
theorem rproven_any (c o v s : Int) (q : Bool) (age : Int) (w : World) : Calls Try.prog 12 #[.agg #[.int .i64 c, .int .i64 o], .agg #[.int .i64 v, .int .i64 s, .bool q], .int .i64 age] w fun e w' => e = .returned (.bool (pv c o v s q age)) ∧ Fr (fun _ => False) w w' := by
  have b1 := wz_bd s
  have b2 := wz_bd o
  have hs : wrap64 (wz s - wz o) = wz s - wz o := IntWalk.wrap64_in _ ⟨by omega, by omega⟩
  have HP : Hid (pv c o v s q age = (q && (c != 0 && (c == v && decide (wz age < wz s - wz o))))) := Lib.hid rfl
  have K := rwithin_any
  have HF : ∀ n, Hid (Fr (fun _ => False) w (((w.alloc (.cells #[.int .i64 c, .int .i64 o] 23)).alloc (.cells #[.int .i64 v, .int .i64 s, .bool q] 25)).drewN n)) := fun n => Lib.hid ((((Fr.refl (fun _ => False) w).alloc _).alloc _).drewN n)
  cases q with
  | false =>
    go_enter Try.func12, Try.ntmps12
    go_wp2_with fail
    go_quiet (fail)
    go_wp2_with fail
    go_ret
    exact ⟨by rw [HP.out]; rfl, (HF _).out⟩
  | true =>
    by_cases h0 : c = 0
    · subst h0
      go_enter Try.func12, Try.ntmps12
      go_wp2_with fail
      go_quiet (fail)
      go_wp2_with fail
      go_ret
      exact ⟨by rw [HP.out]; rfl, (HF _).out⟩
    · have d0 : (c == 0) = false := by simpa using h0
      have d0' : (c != 0) = true := by simpa using h0
      by_cases h1 : c = v
      · subst h1
        have HP2 : Hid (pv c o c s true age = decide (wz age < wz s - wz o)) := Lib.hid (by rw [HP.out, d0', beq_self_eq_true]; rfl)
        clear HP h0
        generalize pv c o c s true age = r at *
        go_enter Try.func12, Try.ntmps12
        go_wp2_with fail
        go_quiet ((go_at_call 21; exact Calls.quiet_of_same ((K _ _).mono fun _ _ ⟨a, b⟩ => ⟨a, b.symm⟩)))
        go_wp2_with fail
        go_ret
        exact ⟨by rw [HP2.out]; rfl, (HF _).out⟩
      · have d1 : (c == v) = false := by simpa using h1
        have HP2 : Hid (pv c o v s true age = false) := Lib.hid (by rw [HP.out, d0', d1]; rfl)
        clear HP h0 h1
        go_enter Try.func12, Try.ntmps12
        go_wp2_with fail
        go_quiet (fail)
        go_wp2_with fail
        go_ret
        exact ⟨by rw [HP2.out]; rfl, (HF _).out⟩

set_option maxHeartbeats 1000000 in
theorem lives_any (w : World) : Calls Try.prog 7 #[] w fun e w' => e = .returned (.bool true) ∧ Fr (fun _ => False) w w' := by
  have K1 := start_any 5
  have K2 := command_any 0 5 9 1
  rw [if_neg (by omega)] at K2
  have K3 := proven_any 1 9 1 12 true 2
  have K4 := proven_any 1 9 1 11 true 2
  rw [show pv 1 9 1 12 true 2 = true from by decide] at K3
  rw [show pv 1 9 1 11 true 2 = false from by decide] at K4
  go_enter Try.func7, Try.ntmps7
  go_wp2_with fail
  refine (K1 _).mono ?_
  clear K1
  rintro e w1 ⟨rfl, f1⟩
  go_wp2_with fail
  refine (K2 _).mono ?_
  clear K2
  rintro e w2 ⟨rfl, f2⟩
  replace f2 := f1.trans f2 (fun _ _ h => h)
  clear f1
  go_wp2_with fail
  refine (K3 _).mono ?_
  clear K3
  rintro e w3 ⟨rfl, f3⟩
  have i3 := (Is.new w2 23 #[.int .i64 1, .int .i64 9]).fr f3 id
  have c0 := i3.cell 0
  have c1 := i3.cell 1
  replace f3 := (f2.alloc _).trans f3 (fun _ _ h => h)
  generalize w2.heap.size = g at *
  clear i3 f2
  go_wp2_with fail
  refine (K4 _).mono ?_
  clear K4
  rintro e w4 ⟨rfl, f4⟩
  go_wp2_with fail
  go_ret
  exact ⟨rfl, f3.trans f4 (fun _ _ h => h)⟩
end Go.Proofs.Ytbjbkaphigolnaa.Mv

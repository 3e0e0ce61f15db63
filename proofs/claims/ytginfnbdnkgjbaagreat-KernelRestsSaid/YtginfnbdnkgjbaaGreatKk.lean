/- Contracts and plain mathematics of earlier stages: Refk. -/
import Derived.Test.YtginfnbdnkgjbaaGreatKj
import Derived.Test.YtginfnbdnkgjbaaGreatKc
namespace Go.Proofs.YtginfnbdnkgjbaaGreat
open Go.RowKit

set_option maxHeartbeats 4000000 in
theorem rkind_any (C : Cm) (s : Int) (w : World) (h : C.Ok w) : Calls Tryz.prog 131 #[C.val, .int .i64 s] w fun e w' => e = .returned (.int .i64 (rkind C.l s)) ∧ Fr (fun _ => False) w w' := by
  unfold rkind Cm.val Cm.arr
  cases hs : isSecB C.l.length s
  · rw [if_neg (by decide)]
    have hn : s < 0 ∨ (C.l.length : Int) ≤ s := by
      unfold isSecB at hs
      simp at hs
      omega
    rcases hn with hn | hn
    · go_enter Tryz.func131, Tryz.ntmps131
      go_wp2_with fail
      go_ret
      exact ⟨rfl, (Fr.refl _ _).alloc _⟩
    · have h0 : ¬ s < 0 := by omega
      go_enter Tryz.func131, Tryz.ntmps131
      go_wp2_with fail
      all_goals try (exfalso; omega)
      go_ret
      exact ⟨rfl, (Fr.refl _ _).alloc _⟩
  · rw [if_pos rfl]
    obtain ⟨k, rfl, hk⟩ := isSecB_true hs
    obtain ⟨g, o, hA, q0, q1, q2⟩ := rd_sec (h.secs.fr ((Fr.refl (fun _ => False) w).alloc (.cells #[.slice C.A1 C.l.length C.c1, .slice C.A2 C.js.length C.c2, .slice C.A3 C.sg.length C.c3, .slice C.A4 C.cr.length C.c4, .slice C.A5 C.rs.length C.c5, .int .i64 C.tm.age, .int .i64 C.tm.brake, .int .i64 C.tm.hold, .int .i64 C.tm.budget] 30)) fun _ _ => id) hk
    rw [hA] at q0 q1 q2 ⊢
    have hkk : kindOf C.l k = C.l[k].kind := kindOf_at hk
    rw [Int.toNat_natCast, hkk]
    have h0 : ¬ (k : Int) < 0 := by omega
    have h1 : ¬ (C.l.length : Int) ≤ (k : Int) := by omega
    generalize C.l[k] = v at *
    clear hA hs
    go_enter Tryz.func131, Tryz.ntmps131
    go_wp2_with fail
    all_goals try (exfalso; omega)
    go_ret
    exact ⟨rfl, (Fr.refl _ _).alloc _⟩

set_option maxHeartbeats 4000000 in
theorem rin_any {A : Option Addr} {c : Nat} (l : List Int) (n : Int) (w : World) (h : Rd w A (l.map (Value.int .i64))) (hl : l.length ≤ 9223372036854775807) : Calls Tryz.prog 69 #[.slice A l.length c, .int .i64 n] w fun e w' => e = .returned (.bool (inL l n)) ∧ Fr (fun _ => False) w w' := by
  generalize hT : inL l n = T
  have HT := Lib.hid hT
  clear hT
  go_enter Tryz.func69, Tryz.ntmps69
  go_wp2_with fail
  go_loopw [9] (fun v9 wr => ∃ k : Nat, k ≤ l.length ∧ v9 = .int .i64 (k : Nat) ∧ inL (l.drop k) n = T ∧ Fr (fun _ => False) w wr) (fun i _ => l.length - (intOf i).toNat)
  case atStart => exact ⟨0, Nat.zero_le _, rfl, HT.out, Fr.refl _ _⟩
  case round =>
    clear HT
    obtain ⟨k, hk, rfl, hT, fr⟩ := hrel
    by_cases hlt : k < l.length
    · obtain ⟨g, o, ha, q0⟩ := rd_int (h.fr fr fun _ _ => id) hlt
      rw [List.drop_eq_getElem_cons hlt] at hT
      unfold inL at hT
      rw [List.any_cons] at hT
      generalize hrest : (l.drop (k + 1)).any (fun x => decide (x = n)) = rest at hT
      have HR := Lib.hid hrest
      clear hrest
      generalize l[k] = x at *
      rw [ha]
      have HA := Lib.hid ha
      clear ha
      by_cases hx : x = n
      · subst hx
        rw [decide_eq_true rfl, Bool.true_or] at hT
        subst hT
        go_wp2_with fail
        go_ret
        exact ⟨rfl, fr⟩
      · rw [decide_eq_false hx, Bool.false_or] at hT
        have HT := Lib.hid hT
        clear hT
        go_wp2_with fail
        go_roundw
        case rel => exact ⟨k + 1, by omega, by go_num, HR.out.trans HT.out, fr⟩
        case measure => simp [intOf]; omega
    · rw [List.drop_eq_nil_of_le (by omega)] at hT
      obtain rfl : T = false := by rw [← hT]; rfl
      go_wp2_with fail
      go_ret
      exact ⟨rfl, fr⟩

def secsL : List St → List Int
  | [] => []
  | v :: r => [v.sec] ++ secsL r
theorem secsL_append : ∀ (a b : List St), secsL (a ++ b) = secsL a ++ secsL b
  | [], _ => rfl
  | v :: r, b => by rw [List.cons_append, secsL, secsL, secsL_append r b, List.append_assoc]
theorem secsL_length : ∀ (l : List St), (secsL l).length = l.length * 1
  | [] => rfl
  | v :: r => by
    rw [secsL, List.length_append, secsL_length r, List.length_cons]
    simp only [List.length_cons, List.length_nil]
    omega
set_option maxHeartbeats 4000000 in
theorem secsL_any {A : Option Addr} {c : Nat} (l : List St) (w : World) (h : Rd w A (cellsT l)) (hb : l.length * 24 ≤ 140737488351232) :
    Calls Tryz.prog 68 #[.slice A l.length c] w (Nums w (secsL l)) := by
  obtain ⟨i0, hi0, hz0, hz1, hz2⟩ := info_parts Tryz.infoI
  go_enter Tryz.func68, Tryz.ntmps68
  go_wp2_with fail
  go_loopw [3, 8] (fun v3 v8 wr => ∃ (i : Nat) (L : List Int) (B : Option Addr) (d : Nat), i ≤ l.length ∧ v8 = .int .i64 (i : Nat) ∧ v3 = .slice B L.length d ∧ L = secsL (l.take i) ∧
      wr.ownsRow w.heap.size 3 1 (.slice B L.length d) L.length (L.map (Value.int .i64)) ∧ Fr (fun _ => False) w wr)
    (fun _ i _ => l.length - (intOf i).toNat)
  case atStart => exact ⟨0, [], none, 0, Nat.zero_le _, rfl, rfl, rfl, World.ownsRow_nil _ _ _ _, Fr.refl _ _⟩
  case round =>
    obtain ⟨i, L, B, d, hi, rfl, rfl, hL, hown, F⟩ := hrel
    have hLl : L.length = i * 1 := by rw [hL, secsL_length, List.length_take]; omega
    by_cases hlp : i < l.length
    · obtain ⟨ga, oa, ha, q0, q1, q2⟩ := rd_st (h.fr F fun _ _ => id) hlp
      have hts : secsL (l.take (i + 1)) = L ++ [l[i].sec] := by
        rw [List.take_succ_eq_append_getElem hlp, secsL_append, ← hL]
        simp [secsL]
      have HTS := Lib.hid hts
      have hLn : (L.length + 1) * 8 ≤ 140737488355328 := by omega
      clear hts hL hLl
      generalize l[i] = v at *
      have hlo := World.ownsRow.lt hown
      rw [ha]
      have HA := Lib.hid ha
      clear ha
      go_wp2_with (at_builtin; refine wpList_append_wide _ rfl (.tmp 12) (.tmp 15) 25 rfl w.heap.size 3 i0 _ 1 8 Tryz.underlying25 hi0 hz0 hz1 hz2 rfl (by decide) (.slice B L.length d) L.length (L.map (Value.int .i64)) rfl ((hown.alloc _).alloc _) (some ⟨wr.heap.size + 1, 0, none⟩) 1 1 [.int .i64 v.sec] rfl rfl (lit_rd_at (by simp) _ _) (by simp [Value.oneCell']) (by unfold maxLen; omega) (by omega) (Nat.le_trans F.size (by simp; omega)) ?_; intro v6 w6 hown6 hg6 hat6; obtain ⟨A6, c6, rfl, _, _, _, _⟩ := wide_form hown6)
      have F6 := ((F.alloc (.cells #[.int .i64 v.sec, .int .i64 v.inn, .int .i64 v.out] 76)).alloc (.cells #[.int .i64 v.sec] 3)).grown hg6 fun j hj => .inr (hlo j hj).1
      clear hg6 hat6 hlo q0 q1 q2
      go_wp2_with fail
      go_roundw
      case rel => exact ⟨i + 1, L ++ [v.sec], A6, c6, by omega, by go_num, by rw [List.length_append]; rfl, HTS.out.symm, by rw [List.length_append, List.map_append]; exact hown6, F6⟩
      case measure => simp [intOf]; omega
    · obtain rfl : i = l.length := by omega
      rw [List.take_length] at hL
      subst hL
      go_wp2_with fail
      go_ret
      exact ⟨B, d, rfl, hown, F⟩
theorem secsL_map : ∀ (p : List St), secsL p = p.map St.sec
  | [] => rfl
  | x :: r => by rw [secsL, List.map_cons, secsL_map r]; rfl
end Go.Proofs.YtginfnbdnkgjbaaGreat


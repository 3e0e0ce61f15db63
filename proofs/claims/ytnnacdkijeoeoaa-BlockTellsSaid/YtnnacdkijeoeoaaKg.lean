/- Contracts and plain mathematics of earlier stages: Clash, Index. -/
import Derived.Test.YtnnacdkijeoeoaaKf
import Derived.Laws.StructEq
namespace Go.Proofs.Ytnnacdkijeoeoaa
open Go.RowKit

theorem fr_drewN {w : World} (q : Nat) : Fr (fun _ => False) w (w.drewN q) := (Fr.refl _ _).drewN q
end Go.Proofs.Ytnnacdkijeoeoaa

namespace Go.Proofs.Ytnnacdkijeoeoaa
open Go.RowKit

/-- the first place of a signal; -1, if there is none -/
def sgFirst (v : Sg) : List Sg → Nat → Int
  | [], _ => -1
  | x :: r, k => if x = v then k else sgFirst v r (k + 1)
theorem sgFirst_ge (v : Sg) : ∀ (l : List Sg) (k : Nat), decide (0 ≤ sgFirst v l k) = l.contains v
  | [], _ => rfl
  | x :: r, k => by
    unfold sgFirst
    rw [List.contains_cons]
    by_cases h : x = v
    · subst h
      rw [if_pos rfl]
      simp
    · have hf : (v == x) = false := by simpa using fun e => h e.symm
      rw [if_neg h, hf, Bool.false_or]
      exact sgFirst_ge v r (k + 1)
theorem sg_ways (x v : Sg) : (x = v) ∨ (x ≠ v ∧ ¬ v.sec = x.sec) ∨ (x ≠ v ∧ v.sec = x.sec ∧ ¬ v.fin = x.fin) := by
  obtain ⟨a, b⟩ := x
  obtain ⟨c, d⟩ := v
  simp only [ne_eq, Sg.mk.injEq]
  omega

set_option maxHeartbeats 1000000 in
theorem sgindex_any {A : Option Addr} {c : Nat} {l : List Sg} (v : Sg) (w : World) (h : Rd w A (cellsG l)) (hl : l.length ≤ 9223372036854775807) :
    Calls Try.prog 70 #[.slice A l.length c, .agg #[.int .i64 v.sec, .int .i64 v.fin]] w fun e w' => e = .returned (.int .i64 (sgFirst v l 0)) ∧ Fr (fun _ => False) w w' := by
  generalize hT : sgFirst v l 0 = T
  have HT := Lib.hid hT
  clear hT
  go_enter Try.func70, Try.ntmps70
  go_wp2_with fail
  go_loopw [8] (fun i wr => ∃ k : Nat, k ≤ l.length ∧ i = .int .i64 (k : Nat) ∧ sgFirst v (l.drop k) k = T ∧ Is wr w.heap.size 77 #[.int .i64 v.sec, .int .i64 v.fin] ∧ Fr (fun _ => False) w wr) (fun i _ => l.length - (intOf i).toNat)
  case atStart => exact ⟨0, Nat.zero_le _, rfl, HT.out, Is.new _ _ _, (Fr.refl _ _).alloc _⟩
  case round =>
    clear HT
    obtain ⟨k, hk, rfl, hT, isv, fr⟩ := hrel
    by_cases hlt : k < l.length
    · obtain ⟨g, o, rfl, q0, q1⟩ := rd_sg (h.fr fr fun _ _ => id) hlt
      have v0 := isv.cell 0
      have v1 := isv.cell 1
      rw [List.drop_eq_getElem_cons hlt, sgFirst] at hT
      generalize l[k] = x at *
      rcases sg_ways x v with hx | ⟨hx, h1⟩ | ⟨hx, h1, h2⟩
      · subst hx
        rw [if_pos rfl] at hT
        subst hT
        go_wp2_with fail
        go_quiet (fail)
        go_wp2_with fail
        go_ret
        exact ⟨rfl, fr.drewN _⟩
      · rw [if_neg hx] at hT
        have HT := Lib.hid hT
        clear hT hx
        obtain ⟨xs, xf⟩ := x
        obtain ⟨vs, vf⟩ := v
        simp only at *
        go_wp2_with fail
        go_quiet (fail)
        go_wp2_with fail
        go_roundw
        case rel => exact ⟨k + 1, by omega, by go_num, HT.out, isv.fr (fr_drewN _) id, fr.drewN _⟩
        case measure => simp [intOf]; omega
      · rw [if_neg hx] at hT
        have HT := Lib.hid hT
        clear hT hx
        obtain ⟨xs, xf⟩ := x
        obtain ⟨vs, vf⟩ := v
        simp only at *
        subst h1
        go_wp2_with fail
        go_quiet (fail)
        go_wp2_with fail
        go_roundw
        case rel => exact ⟨k + 1, by omega, by go_num, HT.out, isv.fr (fr_drewN _) id, fr.drewN _⟩
        case measure => simp [intOf]; omega
    · rw [List.drop_eq_nil_of_le (by omega), sgFirst] at hT
      subst hT
      go_wp2_with fail
      go_ret
      exact ⟨rfl, fr⟩
theorem sgcontains_any {A : Option Addr} {c : Nat} {l : List Sg} (v : Sg) (w : World) (h : Rd w A (cellsG l)) (hl : l.length ≤ 9223372036854775807) :
    Calls Try.prog 55 #[.slice A l.length c, .agg #[.int .i64 v.sec, .int .i64 v.fin]] w fun e w' => e = .returned (.bool (l.contains v)) ∧ Fr (fun _ => False) w w' := by
  have K := fun W (f : Fr (fun _ => False) w W) => sgindex_any (c := c) v W (h.fr f fun _ _ => id) hl
  rw [← sgFirst_ge v l 0]
  generalize sgFirst v l 0 = T at *
  go_enter Try.func55, Try.ntmps55
  go_wp2_with fail
  refine (K _ ((Fr.refl _ _).alloc _)).mono ?_
  rintro e w1 ⟨rfl, f1⟩
  go_wp2_with fail
  go_ret
  exact ⟨rfl, fr_nil ((Fr.refl _ _).alloc _) f1⟩

theorem icontains_any {A : Option Addr} {c : Nat} {l : List Int} (x : Int) (w : World) (h : Rd w A (l.map (Value.int .i64))) (hl : l.length ≤ 9223372036854775807) :
    Calls Try.prog 57 #[.slice A l.length c, .int .i64 x] w fun e w' => e = .returned (.bool (l.contains x)) ∧ w = w' := by
  rcases Nat.eq_zero_or_pos l.length with h0 | h0
  · obtain rfl : l = [] := List.eq_nil_of_length_eq_zero h0
    exact (Try.slices_Contains_int_empty A c x w).mono fun e w' ⟨he, hw⟩ => ⟨he, hw.symm⟩
  · obtain ⟨b, o, rfl, _, _⟩ := h (by simpa using h0)
    refine (Try.slices_Contains_int b o l.length c l x w (Nat.le_refl _) hl (rd_getD h)).mono ?_
    rintro e w' ⟨he, hw⟩
    rw [List.take_length] at he
    exact ⟨he, hw.symm⟩
theorem iequal_any {A A' : Option Addr} {c c' : Nat} {a b : List Int} (w : World) (h : Rd w A (a.map (Value.int .i64))) (h' : Rd w A' (b.map (Value.int .i64))) (hl : a.length ≤ 9223372036854775807) (hl' : b.length ≤ 9223372036854775807) :
    Calls Try.prog 62 #[.slice A a.length c, .slice A' b.length c'] w fun e w' => e = .returned (.bool (decide (a = b))) ∧ Fr (fun _ => False) w w' := by
  by_cases hn : a.length = b.length
  · rcases Nat.eq_zero_or_pos a.length with h0 | h0
    · obtain rfl : a = [] := List.eq_nil_of_length_eq_zero h0
      obtain rfl : b = [] := List.eq_nil_of_length_eq_zero (by rw [← hn]; rfl)
      exact (Try.slices_Equal_int_empty A A' c 0 c' w (by omega)).mono fun e w' ⟨he, hw⟩ => ⟨by rw [he]; rfl, hw ▸ Fr.refl _ _⟩
    · obtain ⟨b1, o1, rfl, _, _⟩ := h (by simpa using h0)
      obtain ⟨b2, o2, rfl, _, _⟩ := h' (by rw [List.length_map, ← hn]; exact h0)
      refine (Try.slices_Equal_int b1 o1 a.length c b2 o2 b.length c' a b w (Nat.le_refl _) (Nat.le_refl _) hl hl' (rd_getD h) (rd_getD h')).mono ?_
      rintro e w' ⟨he, q, rfl⟩
      rw [List.take_length, List.take_length] at he
      refine ⟨by rw [he]; congr 2; by_cases e : a = b <;> simp [e], fr_drewN q⟩
  · refine (Try.slices_Equal_int_lens A A' a.length c b.length c' w hn).mono ?_
    rintro e w' ⟨he, hw⟩
    refine ⟨?_, hw ▸ Fr.refl _ _⟩
    rw [he, decide_eq_false (fun e => hn (by rw [e]))]
theorem nd_ways (x v : Nd) : (x = v) ∨ (x ≠ v ∧ ¬ x.sec = v.sec) ∨ (x ≠ v ∧ x.sec = v.sec ∧ ¬ x.pos = v.pos) := by
  obtain ⟨a, b⟩ := x
  obtain ⟨c, d⟩ := v
  simp only [ne_eq, Nd.mk.injEq]
  omega
set_option maxHeartbeats 1000000 in
theorem nequal_any {A A' : Option Addr} {c c' : Nat} {a b : List Nd} (w : World) (h : Rd w A (cellsN a)) (h' : Rd w A' (cellsN b)) (hl : b.length ≤ 9223372036854775807) :
    Calls Try.prog 59 #[.slice A a.length c, .slice A' b.length c'] w fun e w' => e = .returned (.bool (decide (a = b))) ∧ Fr (fun _ => False) w w' := by
  by_cases hn : a.length = b.length
  · generalize hT : decide (a = b) = T
    have HT := Lib.hid hT
    have HN := Lib.hid hn
    clear hT
    rw [hn]
    have hn1 : ((b.length : Int) != (b.length : Int)) = false := by simp
    clear hn
    go_enter Try.func59, Try.ntmps59
    go_wp2_with fail
    clear hn1
    go_loopw [13] (fun i wr => ∃ k : Nat, k ≤ b.length ∧ i = .int .i64 (k : Nat) ∧ decide (a.drop k = b.drop k) = T ∧ Fr (fun _ => False) w wr) (fun i _ => b.length - (intOf i).toNat)
    case atStart => exact ⟨0, Nat.zero_le _, rfl, HT.out, Fr.refl _ _⟩
    case round =>
      clear HT
      obtain ⟨k, hk, rfl, hT, fr⟩ := hrel
      by_cases hlt : k < b.length
      · have hlt2 : k < a.length := by have := HN.out; omega
        obtain ⟨g, o, rfl, q0, q1⟩ := rd_nd (h.fr fr fun _ _ => id) hlt2
        obtain ⟨g', o', rfl, p0, p1⟩ := rd_nd (h'.fr fr fun _ _ => id) hlt
        rw [List.drop_eq_getElem_cons hlt, List.drop_eq_getElem_cons hlt2] at hT
        generalize a[k] = x at *
        generalize b[k] = v at *
        rcases nd_ways x v with hx | ⟨hx, h1⟩ | ⟨hx, h1, h2⟩
        · subst hx
          have hT2 : decide (a.drop (k + 1) = b.drop (k + 1)) = T := by rw [← hT]; simp
          have HT := Lib.hid hT2
          clear hT hT2
          go_wp2_with fail
          go_quiet (fail)
          go_wp2_with fail
          go_roundw
          case rel => exact ⟨k + 1, by omega, by go_num, HT.out, fr.drewN _⟩
          case measure => simp [intOf]; omega
        · have hT2 : T = false := by rw [← hT]; simp [hx]
          subst hT2
          obtain ⟨xs, xf⟩ := x
          obtain ⟨vs, vf⟩ := v
          simp only at *
          clear hT hx hlt2
          go_wp2_with fail
          go_quiet (fail)
          go_wp2_with fail
          go_ret
          exact ⟨rfl, fr.drewN _⟩
        · have hT2 : T = false := by rw [← hT]; simp [hx]
          subst hT2
          obtain ⟨xs, xf⟩ := x
          obtain ⟨vs, vf⟩ := v
          simp only at *
          subst h1
          clear hT hx hlt2
          go_wp2_with fail
          go_quiet (fail)
          go_wp2_with fail
          go_ret
          exact ⟨rfl, fr.drewN _⟩
      · rw [List.drop_eq_nil_of_le (by have := HN.out; omega), List.drop_eq_nil_of_le (by omega)] at hT
        subst hT
        go_wp2_with fail
        go_ret
        exact ⟨rfl, fr⟩
  · have e0 : decide (a = b) = false := decide_eq_false (fun e => hn (by rw [e]))
    rw [e0]
    have hn1 : ((a.length : Int) != (b.length : Int)) = true := by rw [bne_iff_ne]; omega
    clear e0
    go_enter Try.func59, Try.ntmps59
    go_wp2_with fail
    go_ret
    exact ⟨rfl, Fr.refl _ _⟩
end Go.Proofs.Ytnnacdkijeoeoaa


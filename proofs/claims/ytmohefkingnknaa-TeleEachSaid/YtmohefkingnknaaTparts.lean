/- Rows of parts: how they lie; whether one of them is wrong; how many bytes they have. -/
import Derived.Test.YtmohefkingnknaaTright
namespace Go.Proofs.Ytmohefkingnknaa.Te
open Go.RowKit

def cellsP (l : List Pt) : List Value := l.flatMap Pt.cells
theorem cellsP_length (l : List Pt) : (cellsP l).length = l.length * 3 := by
  induction l with
  | nil => rfl
  | cons v r ih =>
    have e : cellsP (v :: r) = v.cells ++ cellsP r := rfl
    rw [e, List.length_append, ih, List.length_cons]
    simp [Pt.cells]
    omega
theorem cellsP_at {l : List Pt} {j : Nat} (h : j < l.length) : (cellsP l)[j * 3]? = some (.int .i64 (l[j].n : Int)) ∧ (cellsP l)[j * 3 + 1]? = some (.int .i64 l[j].m) ∧ (cellsP l)[j * 3 + 2]? = some (.pointer (some ⟨l[j].b, l[j].o, none⟩)) := by
  induction l generalizing j with
  | nil => simp at h
  | cons v r ih =>
    have e : cellsP (v :: r) = v.cells ++ cellsP r := rfl
    rcases j with _ | j
    · rw [e]; simp [Pt.cells]
    · have := ih (j := j) (by simpa using h)
      rw [e, show (j + 1) * 3 = 3 + j * 3 by omega, show 3 + j * 3 + 1 = 3 + (j * 3 + 1) by omega, show 3 + j * 3 + 2 = 3 + (j * 3 + 2) by omega]
      rw [List.getElem?_append_right (by simp [Pt.cells]), List.getElem?_append_right (by simp [Pt.cells]), List.getElem?_append_right (by simp [Pt.cells])]
      simpa [Pt.cells] using this
theorem rd_pt {w : World} {A : Option Addr} {l : List Pt} (h : Rd w A (cellsP l)) {j : Nat} (hj : j < l.length) : ∃ g o, A = some ⟨g, o, none⟩ ∧ g < w.heap.size ∧ w.cell? ⟨g, o + j * 3, none⟩ = some (.int .i64 (l[j].n : Int)) ∧ w.cell? ⟨g, o + j * 3 + 1, none⟩ = some (.int .i64 l[j].m) ∧ w.cell? ⟨g, o + j * 3 + 2, none⟩ = some (.pointer (some ⟨l[j].b, l[j].o, none⟩)) := by
  obtain ⟨h0, h1, h2⟩ := cellsP_at hj
  obtain ⟨g, o, rfl, hg, hc⟩ := h (by have := (List.getElem?_eq_some_iff.1 h0).1; omega)
  exact ⟨g, o, rfl, hg, hc _ _ h0, hc _ _ h1, hc _ _ h2⟩

structure Prs (w : World) (A : Option Addr) (l : List Pt) : Prop where
  rd : Rd w A (cellsP l)
  ok : ∀ p ∈ l, p.Ok w
theorem Prs.fr {w w1 : World} {A : Option Addr} {l : List Pt} (h : Prs w A l) (f : Fr (fun _ => False) w w1) : Prs w1 A l := ⟨h.rd.fr f fun _ _ => id, fun p hp => (h.ok p hp).fr f id fun _ _ => id⟩

theorem wrong_any {w : World} {p : Pt} (h : p.Ok w) :
    Calls Try.prog 56 #[p.val] w fun e w' => e = .returned (.bool (!p.good)) ∧ Fr (fun _ => False) w w' := by
  have f0 : Fr (fun _ => False) w (w.alloc (.cells #[.int .i64 (p.n : Int), .int .i64 p.m, .pointer (some ⟨p.b, p.o, none⟩)] 106)) := (Fr.refl _ w).alloc _
  have K := right_any (h.fr f0 id fun _ _ => id)
  unfold Pt.val at *
  go_enter Try.func56, Try.ntmps56
  go_wp2_with fail
  refine K.mono ?_
  rintro e w1 ⟨rfl, f1⟩
  go_wp2_with fail
  go_ret
  exact ⟨rfl, fr_nil f0 f1⟩
theorem wrongr_any {w : World} {p : Pt} (h : p.Ok w) :
    Calls Try.prog 65 #[p.val] w fun e w' => e = .returned (.bool (!p.good)) ∧ Fr (fun _ => False) w w' := by
  have f0 : Fr (fun _ => False) w (w.alloc (.cells #[.int .i64 (p.n : Int), .int .i64 p.m, .pointer (some ⟨p.b, p.o, none⟩)] 106)) := (Fr.refl _ w).alloc _
  have K := right_any (h.fr f0 id fun _ _ => id)
  unfold Pt.val at *
  go_enter Try.func65, Try.ntmps65
  go_wp2_with fail
  refine K.mono ?_
  rintro e w1 ⟨rfl, f1⟩
  go_wp2_with fail
  go_ret
  exact ⟨rfl, fr_nil f0 f1⟩

theorem not_all : ∀ l : List Pt, (!l.all Pt.good) = l.any fun p => !p.good
  | [] => rfl
  | x :: r => by rw [List.all_cons, List.any_cons, Bool.not_and, not_all r]
-- TWO
set_option maxHeartbeats 1000000 in
theorem indexp_any {A : Option Addr} {c : Nat} {ps : List Pt} (w : World) (h : Prs w A ps) (hal : ps.length ≤ 9223372036854775807) :
    Calls Try.prog 67 #[.slice A ps.length c, .func (.func 56) #[] #[]] w fun e w' => e = .returned (.int .i64 (firstP (fun p : Pt => !p.good) ps 0)) ∧ Fr (fun _ => False) w w' := by
  have K := fun (p : Pt) (W : World) (h : p.Ok W) => wrong_any h
  generalize hT : firstP (fun p : Pt => !p.good) ps 0 = T
  have HT := Lib.hid hT
  clear hT
  go_enter Try.func67, Try.ntmps67
  go_wp2_with fail
  go_loopw [8] (fun i wr => ∃ k : Nat, k ≤ ps.length ∧ i = .int .i64 (k : Nat) ∧ firstP (fun p : Pt => !p.good) (ps.drop k) k = T ∧ Fr (fun _ => False) w wr) (fun i _ => ps.length - (intOf i).toNat)
  case atStart => exact ⟨0, Nat.zero_le _, rfl, HT.out, Fr.refl _ _⟩
  case round =>
    clear HT
    obtain ⟨k, hk, rfl, hT, fr⟩ := hrel
    by_cases hlt : k < ps.length
    · obtain ⟨g, o, rfl, _, q0, q1, q2⟩ := rd_pt (h.fr fr).rd hlt
      have KX := K ps[k] wr ((h.fr fr).ok _ (List.getElem_mem hlt))
      unfold Pt.val at KX
      rw [List.drop_eq_getElem_cons hlt, firstP] at hT
      generalize ps[k] = x at *
      cases hx : x.good
      · rw [hx] at hT KX
        rw [if_pos (by rfl)] at hT
        have HT := Lib.hid hT
        clear hT hx K
        go_wp2_with fail
        refine KX.mono ?_
        rintro e w1 ⟨rfl, f1⟩
        go_wp2_with fail
        go_ret
        exact ⟨by rw [← HT.out]; rfl, fr_nil fr f1⟩
      · rw [hx] at hT KX
        rw [if_neg (by decide)] at hT
        have HT := Lib.hid hT
        clear hT hx K
        go_wp2_with fail
        refine KX.mono ?_
        rintro e w1 ⟨rfl, f1⟩
        go_wp2_with fail
        go_roundw
        case rel => exact ⟨k + 1, by omega, by go_num, HT.out, fr_nil fr f1⟩
        case measure => simp [intOf]; omega
    · have hk' : k = ps.length := by omega
      rw [List.drop_eq_nil_of_le (by omega)] at hT
      have HT := Lib.hid hT
      clear hT K hk'
      go_wp2_with fail
      go_ret
      exact ⟨by rw [← HT.out]; rfl, fr⟩
theorem containsp_any {A : Option Addr} {c : Nat} {ps : List Pt} (w : World) (h : Prs w A ps) (hal : ps.length ≤ 9223372036854775807) :
    Calls Try.prog 55 #[.slice A ps.length c, .func (.func 56) #[] #[]] w fun e w' => e = .returned (.bool (!ps.all Pt.good)) ∧ Fr (fun _ => False) w w' := by
  have K := indexp_any (c := c) w h hal
  rw [not_all, ← firstP_ge _ _ 0]
  generalize firstP (fun p : Pt => !p.good) ps 0 = T at *
  go_enter Try.func55, Try.ntmps55
  go_wp2_with fail
  refine K.mono ?_
  rintro e w1 ⟨rfl, f1⟩
  go_wp2_with fail
  go_ret
  exact ⟨rfl, f1⟩
-- COPY
set_option maxHeartbeats 1000000 in
theorem indexr_any {A : Option Addr} {c : Nat} {ps : List Pt} (w : World) (h : Prs w A ps) (hal : ps.length ≤ 9223372036854775807) :
    Calls Try.prog 67 #[.slice A ps.length c, .func (.func 65) #[] #[]] w fun e w' => e = .returned (.int .i64 (firstP (fun p : Pt => !p.good) ps 0)) ∧ Fr (fun _ => False) w w' := by
  have K := fun (p : Pt) (W : World) (h : p.Ok W) => wrongr_any h
  generalize hT : firstP (fun p : Pt => !p.good) ps 0 = T
  have HT := Lib.hid hT
  clear hT
  go_enter Try.func67, Try.ntmps67
  go_wp2_with fail
  go_loopw [8] (fun i wr => ∃ k : Nat, k ≤ ps.length ∧ i = .int .i64 (k : Nat) ∧ firstP (fun p : Pt => !p.good) (ps.drop k) k = T ∧ Fr (fun _ => False) w wr) (fun i _ => ps.length - (intOf i).toNat)
  case atStart => exact ⟨0, Nat.zero_le _, rfl, HT.out, Fr.refl _ _⟩
  case round =>
    clear HT
    obtain ⟨k, hk, rfl, hT, fr⟩ := hrel
    by_cases hlt : k < ps.length
    · obtain ⟨g, o, rfl, _, q0, q1, q2⟩ := rd_pt (h.fr fr).rd hlt
      have KX := K ps[k] wr ((h.fr fr).ok _ (List.getElem_mem hlt))
      unfold Pt.val at KX
      rw [List.drop_eq_getElem_cons hlt, firstP] at hT
      generalize ps[k] = x at *
      cases hx : x.good
      · rw [hx] at hT KX
        rw [if_pos (by rfl)] at hT
        have HT := Lib.hid hT
        clear hT hx K
        go_wp2_with fail
        refine KX.mono ?_
        rintro e w1 ⟨rfl, f1⟩
        go_wp2_with fail
        go_ret
        exact ⟨by rw [← HT.out]; rfl, fr_nil fr f1⟩
      · rw [hx] at hT KX
        rw [if_neg (by decide)] at hT
        have HT := Lib.hid hT
        clear hT hx K
        go_wp2_with fail
        refine KX.mono ?_
        rintro e w1 ⟨rfl, f1⟩
        go_wp2_with fail
        go_roundw
        case rel => exact ⟨k + 1, by omega, by go_num, HT.out, fr_nil fr f1⟩
        case measure => simp [intOf]; omega
    · have hk' : k = ps.length := by omega
      rw [List.drop_eq_nil_of_le (by omega)] at hT
      have HT := Lib.hid hT
      clear hT K hk'
      go_wp2_with fail
      go_ret
      exact ⟨by rw [← HT.out]; rfl, fr⟩
theorem containsr_any {A : Option Addr} {c : Nat} {ps : List Pt} (w : World) (h : Prs w A ps) (hal : ps.length ≤ 9223372036854775807) :
    Calls Try.prog 55 #[.slice A ps.length c, .func (.func 65) #[] #[]] w fun e w' => e = .returned (.bool (!ps.all Pt.good)) ∧ Fr (fun _ => False) w w' := by
  have K := indexr_any (c := c) w h hal
  rw [not_all, ← firstP_ge _ _ 0]
  generalize firstP (fun p : Pt => !p.good) ps 0 = T at *
  go_enter Try.func55, Try.ntmps55
  go_wp2_with fail
  refine K.mono ?_
  rintro e w1 ⟨rfl, f1⟩
  go_wp2_with fail
  go_ret
  exact ⟨rfl, f1⟩
-- END

/-- how many bytes a payload of these parts has -/
def widthP (l : List Pt) : Nat := l.foldl (fun s p => s + p.n) 1
theorem widthP_snoc (l : List Pt) (p : Pt) : widthP (l ++ [p]) = widthP l + p.n := by simp [widthP, List.foldl_append]
theorem widthP_take (l : List Pt) (hn : ∀ p ∈ l, p.n ≤ 17592186044416) : ∀ k, k ≤ l.length → widthP (l.take k) ≤ 1 + k * 17592186044416
  | 0, _ => by simp [widthP]
  | k + 1, hk => by
    have ih := widthP_take l hn k (by omega)
    rw [List.take_succ_eq_append_getElem (by omega), widthP_snoc]
    have := hn l[k] (List.getElem_mem _)
    omega
theorem width_any {A : Option Addr} {c : Nat} {ps : List Pt} (w : World) (h : Rd w A (cellsP ps)) (hn : ∀ p ∈ ps, p.n ≤ 17592186044416) (hal : ps.length ≤ 4) :
    Calls Try.prog 58 #[.slice A ps.length c] w fun e w' => e = .returned (.int .i64 (widthP ps : Int)) ∧ Fr (fun _ => False) w w' := by
  have HW := Lib.hid (widthP_take ps hn)
  clear hn
  go_enter Try.func58, Try.ntmps58
  go_wp2_with fail
  go_loopw [3, 8] (fun s i wr => ∃ k : Nat, k ≤ ps.length ∧ i = .int .i64 (k : Nat) ∧ s = .int .i64 (widthP (ps.take k) : Nat) ∧ Fr (fun _ => False) w wr) (fun _ i _ => ps.length - (intOf i).toNat)
  case atStart => exact ⟨0, Nat.zero_le _, rfl, rfl, Fr.refl _ _⟩
  case round =>
    obtain ⟨k, hk, rfl, rfl, fr⟩ := hrel
    by_cases hlt : k < ps.length
    · obtain ⟨g, o, rfl, _, q0, q1, q2⟩ := rd_pt (h.fr fr fun _ _ => id) hlt
      have hw1 := HW.out (k + 1) (by omega)
      have hw : widthP (ps.take (k + 1)) = widthP (ps.take k) + ps[k].n := by rw [List.take_succ_eq_append_getElem (by omega), widthP_snoc]
      rw [hw] at hw1
      have hs : widthP (ps.take k) + ps[k].n ≤ 70368744177665 := by omega
      have HX := Lib.hid hw
      clear hw hw1
      generalize ps[k] = x at *
      generalize widthP (ps.take k) = s at *
      go_wp2_with fail
      go_roundw
      case rel => exact ⟨k + 1, by omega, by go_num, by rw [HX.out]; go_num, fr.alloc _⟩
      case measure => simp [intOf]; omega
    · have hk' : k = ps.length := by omega
      have HT := Lib.hid (show widthP (ps.take k) = widthP ps by rw [hk', List.take_length])
      clear hk'
      go_wp2_with fail
      go_ret
      exact ⟨by rw [← HT.out]; rfl, fr⟩
end Go.Proofs.Ytmohefkingnknaa.Te

/- The contract of write: the payload of parts. -/
import Derived.Test.YtmohefkingnknaaTparts
import Derived.Test.YtmohefkingnknaaPtext
import Derived.Test.YtmohefkingnknaaPfacts
import Derived.Test.YtmohefkingnknaaTmv
namespace Go.Proofs.Ytmohefkingnknaa.Te
open Go.RowKit

theorem nums_good : ∀ (l : List Int) (s : Pk.S), (∀ x ∈ l, 0 ≤ x ∧ x ≤ 255) → s.e = 0 → (s.bs.length : Int) + l.length ≤ s.L → s.nums 1 l = ⟨s.L, s.bs ++ byL l, 0⟩
  | [], s, _, he, _ => by
    obtain ⟨L, bs, e⟩ := s
    simp only at he
    subst he
    simp [Pk.S.nums, byL]
  | x :: l, s, hx, he, hb => by
    have h0 := hx x List.mem_cons_self
    rw [List.length_cons] at hb
    have hd : Pk.digits 1 x = [UInt8.ofNat x.toNat] := by
      show [Pk.dig 1 x 0] = _
      unfold Pk.dig
      have e : x / 2 ^ (8 * (1 - 1 - 0)) % 256 = x := by
        have : (2 : Int) ^ (8 * (1 - 1 - 0)) = 1 := rfl
        rw [this]
        omega
      rw [e]
    have e1 : s.num 1 x = ⟨s.L, s.bs ++ [UInt8.ofNat x.toNat], 0⟩ := by
      obtain ⟨L, bs, e⟩ := s
      simp only at he hb ⊢
      subst he
      unfold Pk.S.num Pk.S.put
      have hf : Pk.fits 1 x = true := Pa.fits_of h0.1 (by have : (2 : Int) ^ (8 * 1) = 256 := rfl; omega)
      rw [if_pos hf, hd, if_pos rfl, if_pos (by simp only [List.length_cons, List.length_nil]; omega)]
    rw [Pk.S.nums_cons, e1, nums_good l _ (fun y hy => hx y (List.mem_cons_of_mem _ hy)) rfl (by simp only [List.length_append, List.length_cons, List.length_nil]; omega)]
    simp [byL]

/-- the bytes of these parts -/
def bytesP (l : List Pt) : List UInt8 := l.flatMap fun p => byL p.l
theorem bytesP_snoc (l : List Pt) (p : Pt) : bytesP (l ++ [p]) = bytesP l ++ byL p.l := by
  unfold bytesP
  rw [List.flatMap_append]
  simp
theorem widthP_good : ∀ {l : List Pt}, l.all Pt.good = true → widthP l = 1 + (bytesP l).length := fun {l} => by
  have h : ∀ (l : List Pt) (k : Nat), l.all Pt.good = true → l.foldl (fun s p => s + p.n) k = k + (bytesP l).length := fun l => by
    induction l with
    | nil => intro k _; rfl
    | cons x r ih =>
      intro k h
      rw [List.all_cons, Bool.and_eq_true] at h
      rw [List.foldl_cons, ih _ h.2]
      have := (okL_iff.1 h.1).1
      show _ = k + (byL x.l ++ bytesP r).length
      rw [List.length_append, byL_length]
      omega
  exact h l 1
theorem widthP_pre {l : List Pt} (h : l.all Pt.good = true) (k : Nat) : 1 + (bytesP (l.take k)).length ≤ widthP l := by
  rw [widthP_good h]
  have : bytesP l = bytesP (l.take k) ++ bytesP (l.drop k) := by
    unfold bytesP
    rw [← List.flatMap_append, List.take_append_drop]
  rw [this, List.length_append]
  omega
/-- a payload, and the error -/
def wrP (kind : UInt8) (l : List Pt) : List UInt8 × Int := if l.all Pt.good = true then (kind :: bytesP l, 0) else ([], 32)

open Go.Proofs.Ytmohefkingnknaa.Pa in
set_option maxHeartbeats 2000000 in
theorem write_any {A : Option Addr} {c : Nat} {ps : List Pt} (w : World) (h : Prs w A ps) (hal : ps.length ≤ 4) (hm : ∀ p ∈ ps, p.m ≤ 255) (kd : Nat) (hk : kd ≤ 255) :
    Calls Try.prog 26 #[.int .i64 (kd : Int), .slice A ps.length c] w fun e w' => e = .returned (.tuple #[.string ⟨(wrP (UInt8.ofNat kd) ps).1.toArray⟩, .int .i64 (wrP (UInt8.ofNat kd) ps).2]) ∧ Fr (fun _ => False) w w' := by
  have KC := containsp_any (c := c) w h (by omega)
  by_cases hg : ps.all Pt.good = true
  · have hw := widthP_take ps (fun p hp => (h.ok p hp).ne) ps.length (Nat.le_refl _)
    rw [List.take_length] at hw
    have hW : widthP ps ≤ 70368744177665 := by omega
    have hpre := widthP_pre hg
    have KW := fun W (f : Fr (fun _ => False) w W) => width_any (c := c) W (h.fr f).rd (fun p hp => ((h.fr f).ok p hp).ne) hal
    have e1 : wrP (UInt8.ofNat kd) ps = (UInt8.ofNat kd :: bytesP ps, 0) := by unfold wrP; rw [if_pos hg]
    have hgd : ∀ k (hk : k < ps.length), ∀ x ∈ ps[k].l, 0 ≤ x ∧ x ≤ 255 := fun k hk x hx => by
      have hx1 := (okL_iff.1 (List.all_eq_true.1 hg _ (List.getElem_mem hk))).2 x hx
      have := hm _ (List.getElem_mem hk)
      omega
    rw [hg] at KC
    rw [e1]
    clear e1 hg hm hw
    generalize widthP ps = W at *
    have HPRE := Lib.hid hpre
    have HGD := Lib.hid hgd
    have hmx : max (W : Int) 0 = W := by omega
    clear hpre hgd
    go_enter Try.func26, Try.ntmps26
    go_wp2_with fail
    refine KC.mono ?_
    rintro e w1 ⟨rfl, f1⟩
    go_wp2_with fail
    refine (KW w1 f1).mono ?_
    rintro e w2 ⟨rfl, f2⟩
    clear KC KW
    go_wp2_with fail
    refine (new_any _ w2).mono ?_
    rintro e w3 ⟨rfl, hw3⟩
    have Q3 := new_wr (W : Int) w2 (by omega)
    rw [← hw3, hmx] at Q3
    have f3 : Fr (fun _ => False) w w3 := by rw [hw3]; exact (fr_nil f1 f2).alloc _
    have hbz : w.heap.size ≤ w2.heap.size := (fr_nil f1 f2).size
    clear hw3 f1 f2
    generalize w2.heap.size = b at *
    go_wp2_with fail
    have Q4 := Wr.fr Q3 ((Fr.refl (fun _ => False) w3).alloc (.cells #[.int .i64 (kd : Int)] 3)) id (fun _ _ => id)
    have hne : blk (some ⟨w3.heap.size, 0, none⟩) ≠ some b := fun e => by
      have e' : w3.heap.size = b := by injection e
      have := Q3.lt
      omega
    refine (byte_any Q4 _ _ [(kd : Int)] (Rd.one w3 _ _) hne (fun _ e => by cases e) (by simp) (.inl (by show (W : Int) ≤ _; omega))).mono ?_
    rintro e w5 ⟨rfl, F5, Q5, M5⟩
    rw [nums_good [(kd : Int)] ⟨(W : Int), [], 0⟩ (by simp; omega) rfl (by have h0 : 1 + (bytesP (ps.take 0)).length ≤ W := HPRE.out 0; show ((0 : Nat) : Int) + ((0 + 1 : Nat) : Int) ≤ (W : Int); omega)] at Q5
    have Q5' : Wr w5 b F5 ⟨(W : Int), UInt8.ofNat kd :: bytesP (ps.take 0), 0⟩ := Q5
    have f4 := f3.alloc (.cells #[.int .i64 (kd : Int)] 3)
    have f5 : Fr (fun _ => False) w w5 := f4.trans M5.1 (fun k hk h => by rcases h with h | h; · omega
                                                                          · cases h)
    have hF5 : ∀ x, F5 = some x → w.heap.size ≤ x := fun x hx => by
      rcases M5.2 with e | ⟨g, e, hg⟩
      · rw [e] at hx; cases hx
      · rw [e] at hx
        injection hx with hx
        have := f4.size
        omega
    clear Q3 Q4 Q5 M5 f3 f4
    go_wp2_with fail
    go_loopw [20] (fun i wr => ∃ (k : Nat) (F : Option Nat), k ≤ ps.length ∧ i = .int .i64 (k : Nat) ∧ Wr wr b F ⟨(W : Int), UInt8.ofNat kd :: bytesP (ps.take k), 0⟩ ∧ Fr (fun _ => False) w wr ∧ ∀ x, F = some x → w.heap.size ≤ x) (fun i _ => ps.length - (intOf i).toNat)
    case atStart => exact ⟨0, F5, Nat.zero_le _, rfl, Q5', f5, hF5⟩
    case round =>
      clear Q5' f5 hF5
      obtain ⟨k, F, hk, rfl, Q, fr, hF⟩ := hrel
      by_cases hlt : k < ps.length
      · obtain ⟨g, o, rfl, _, q0, q1, q2⟩ := rd_pt (h.fr fr).rd hlt
        have fr1 : Fr (fun _ => False) wr (wr.alloc (.cells #[.int .i64 (ps[k].n : Int), .int .i64 ps[k].m, .pointer (some ⟨ps[k].b, ps[k].o, none⟩)] 106)) := (Fr.refl _ _).alloc _
        have ok0 := h.ok _ (List.getElem_mem hlt)
        have ok1 := (ok0.fr fr id (fun _ _ => id)).fr fr1 id (fun _ _ => id)
        have k3 := ok1.at_
        have Q1 := Wr.fr Q fr1 id (fun _ _ => id)
        have hpr := HPRE.out (k + 1)
        have hsn : bytesP (ps.take (k + 1)) = bytesP (ps.take k) ++ byL ps[k].l := by rw [List.take_succ_eq_append_getElem (by omega), bytesP_snoc]
        rw [hsn, List.length_append, byL_length] at hpr
        have hnum := nums_good ps[k].l ⟨(W : Int), UInt8.ofNat kd :: bytesP (ps.take k), 0⟩ (HGD.out k hlt) rfl (by simp only [List.length_cons]; omega)
        have hlt0 := ok0.lt2
        have KB := byte_all Q1 ps[k].A ps[k].c ps[k].l ok1.rd (fun h0 e => by have := hlt0 h0 _ e; omega) (fun h0 x hx e => by have := hlt0 h0 _ e; have := hF x hx; omega) (by have := ok0.le; omega) (.inl (by show (W : Int) ≤ _; omega))
        rw [hnum] at KB
        have HSN := Lib.hid hsn
        clear hnum hsn hpr ok0 ok1
        generalize ps[k] = x at *
        go_wp2_with fail
        refine KB.mono ?_
        rintro e w6 ⟨rfl, F6, Q6, M6⟩
        have f6 : Fr (fun _ => False) w w6 := (fr_nil fr fr1).trans M6.1 (fun j hj h => by
          rcases h with h | h
          · omega
          · have := hF j h
            omega)
        have hF6 : ∀ x, F6 = some x → w.heap.size ≤ x := fun x hx => by
          rcases M6.2 with e | ⟨g, e, hg⟩
          · rw [e] at hx; exact hF x hx
          · rw [e] at hx
            injection hx with hx
            have := (fr_nil fr fr1).size
            omega
        have Q6' : Wr w6 b F6 ⟨(W : Int), UInt8.ofNat kd :: bytesP (ps.take (k + 1)), 0⟩ := by rw [HSN.out]; exact Q6
        clear Q6 M6 KB Q Q1
        go_wp2_with fail
        go_roundw
        case rel => exact ⟨k + 1, F6, by omega, by go_num, Q6', f6, hF6⟩
        case measure => simp [intOf]; omega
      · have hk' : k = ps.length := by omega
        rw [hk', List.take_length] at Q
        have KD := done_any Q
        clear hk' Q
        go_wp2_with fail
        refine KD.mono ?_
        rintro e w6 ⟨rfl, q, rfl⟩
        go_wp2_with fail
        go_ret2
        exact ⟨rfl, fr.drewN q⟩
  · have hg' : ps.all Pt.good = false := by simpa using hg
    have e1 : wrP (UInt8.ofNat kd) ps = ([], 32) := by unfold wrP; rw [if_neg hg]
    rw [hg'] at KC
    rw [e1]
    clear hg hg' e1
    go_enter Try.func26, Try.ntmps26
    go_wp2_with fail
    refine KC.mono ?_
    rintro e w1 ⟨rfl, f1⟩
    go_wp2_with fail
    go_ret2
    exact ⟨rfl, f1⟩
end Go.Proofs.Ytmohefkingnknaa.Te

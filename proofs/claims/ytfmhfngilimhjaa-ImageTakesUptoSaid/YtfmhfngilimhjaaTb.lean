/- Contracts and plain mathematics of earlier stages: Tmv, Twrite, Tsp, Tstat, Tblock, Tlives. -/
import Derived.Test.YtfmhfngilimhjaaKp
import Derived.Test.YtfmhfngilimhjaaTa
import Derived.Test.YtfmhfngilimhjaaKr
import Derived.Deep.RegionHeld3
namespace Go.Proofs.Ytfmhfngilimhjaa.Te
open Go.RowKit Go.Proofs.Ytfmhfngilimhjaa.Pa

theorem mv_fr {w0 w w' : World} {b : Nat} {F F' : Option Nat} (f : Fr (fun _ => False) w0 w) (m : Mv w w' b F F') (hb : w0.heap.size ≤ b) (hF : ∀ k, F = some k → w0.heap.size ≤ k) :
    Fr (fun _ => False) w0 w' ∧ ∀ k, F' = some k → w0.heap.size ≤ k := by
  refine ⟨f.trans m.1 fun k hk h => ?_, fun k hk => ?_⟩
  · rcases h with h | h
    · omega
    · have := hF k h
      omega
  · rcases m.2 with e | ⟨g, e, hg⟩
    · exact hF k (e ▸ hk)
    · rw [e] at hk
      injection hk with hk
      have := f.size
      omega
theorem mv_is {w w' : World} {b j : Nat} {F F' : Option Nat} {t : TypeId} {cs : Array Value} (h : Is w j t cs) (m : Mv w w' b F F') (hb : j ≠ b) (hF : F ≠ some j) : Is w' j t cs :=
  h.fr m.1 fun e => by
    rcases e with e | e
    · exact hb e
    · exact hF e
theorem blk_ne {g b : Nat} (h : g ≠ b) : blk (some ⟨g, 0, none⟩) ≠ some b := fun e => h (by injection e)
/-- Byte, at a list that may be empty, and lie anywhere then -/
theorem byte_all {w : World} {b : Nat} {F : Option Nat} {s : Pk.S} (h : Wr w b F s) (A : Option Addr) (c : Nat) (l : List Int) (hl : Rd w A (l.map (Value.int .i64))) (hA : 0 < l.length → blk A ≠ some b) (hAF : 0 < l.length → ∀ k, F = some k → blk A ≠ some k)
    (hlen : l.length ≤ 140737488355328) (hbd : s.L ≤ 140737488355328 ∨ s.bs.length + 1 * l.length ≤ 140737488355328) :
    Calls Try.prog 67 #[.pointer (some ⟨b, 0, none⟩), .slice A l.length c] w fun e w' => e = .returned (.tuple #[]) ∧ ∃ F', Wr w' b F' (s.nums 1 l) ∧ Mv w w' b F F' := by
  rcases Nat.eq_zero_or_pos l.length with h0 | h0
  · obtain rfl : l = [] := List.eq_nil_of_length_eq_zero h0
    have K : Calls Try.prog 90 #[.pointer (some ⟨b, 0, none⟩), .int .i64 1, .slice A 0 c] w fun e w' => e = .returned (.tuple #[]) ∧ ∃ F', Wr w' b F' (s.nums 1 []) ∧ Mv w w' b F F' := by
      clear hl hA hAF hlen hbd h0
      go_enter Try.func90, Try.ntmps90
      go_wp2
      refine wp_loop_rounds 1 ?_
      rw [rounds_succ]
      go_wp2
      go_end0
      exact ⟨rfl, F, h, Mv.refl _ _ _⟩
    show Calls Try.prog 67 #[.pointer (some ⟨b, 0, none⟩), .slice A 0 c] w _
    clear hl hA hAF hbd h0 hlen
    go_enter Try.func67, Try.ntmps67
    go_wp2_with (go_at_call 90; refine K.mono ?_; rintro e w1 ⟨rfl, F', hw1, hm1⟩)
    go_end0
    exact ⟨rfl, F', hw1, hm1⟩
  · exact byte_any h A c l hl (hA h0) (hAF h0) hlen hbd
end Go.Proofs.Ytfmhfngilimhjaa.Te

namespace Go.Proofs.Ytfmhfngilimhjaa.Te
open Go.RowKit

theorem nums_good : ∀ (l : List Int) (s : Pk.S), (∀ x ∈ l, 0 ≤ x ∧ x ≤ 255) → s.e = 0 → (s.bs.length : Int) + l.length ≤ s.L → s.nums 1 l = ⟨s.L, s.bs ++ byL l, 0⟩
  | [], s, _, he, _ => by
    obtain ⟨L, bs, e⟩ := s
    simp only at he
    subst he
    simp [Pk.S.nums, byL]
  | x :: l, s, hx, he, hb => by
    have h0 := hx x List.mem_cons_self
    rw [List.length_cons] at hb
    have hd : Pk.digits 1 x = [UInt8.ofNat x.toNat] := by
      show [Pk.dig 1 x 0] = _
      unfold Pk.dig
      have e : x / 2 ^ (8 * (1 - 1 - 0)) % 256 = x := by
        have : (2 : Int) ^ (8 * (1 - 1 - 0)) = 1 := rfl
        rw [this]
        omega
      rw [e]
    have e1 : s.num 1 x = ⟨s.L, s.bs ++ [UInt8.ofNat x.toNat], 0⟩ := by
      obtain ⟨L, bs, e⟩ := s
      simp only at he hb ⊢
      subst he
      unfold Pk.S.num Pk.S.put
      have hf : Pk.fits 1 x = true := Pa.fits_of h0.1 (by have : (2 : Int) ^ (8 * 1) = 256 := rfl; omega)
      rw [if_pos hf, hd, if_pos rfl, if_pos (by simp only [List.length_cons, List.length_nil]; omega)]
    rw [Pk.S.nums_cons, e1, nums_good l _ (fun y hy => hx y (List.mem_cons_of_mem _ hy)) rfl (by simp only [List.length_append, List.length_cons, List.length_nil]; omega)]
    simp [byL]

/-- the bytes of these parts -/
def bytesP (l : List Pt) : List UInt8 := l.flatMap fun p => byL p.l
theorem bytesP_snoc (l : List Pt) (p : Pt) : bytesP (l ++ [p]) = bytesP l ++ byL p.l := by
  unfold bytesP
  rw [List.flatMap_append]
  simp
theorem widthP_good : ∀ {l : List Pt}, l.all Pt.good = true → widthP l = 1 + (bytesP l).length := fun {l} => by
  have h : ∀ (l : List Pt) (k : Nat), l.all Pt.good = true → l.foldl (fun s p => s + p.n) k = k + (bytesP l).length := fun l => by
    induction l with
    | nil => intro k _; rfl
    | cons x r ih =>
      intro k h
      rw [List.all_cons, Bool.and_eq_true] at h
      rw [List.foldl_cons, ih _ h.2]
      have := (okL_iff.1 h.1).1
      show _ = k + (byL x.l ++ bytesP r).length
      rw [List.length_append, byL_length]
      omega
  exact h l 1
theorem widthP_pre {l : List Pt} (h : l.all Pt.good = true) (k : Nat) : 1 + (bytesP (l.take k)).length ≤ widthP l := by
  rw [widthP_good h]
  have : bytesP l = bytesP (l.take k) ++ bytesP (l.drop k) := by
    unfold bytesP
    rw [← List.flatMap_append, List.take_append_drop]
  rw [this, List.length_append]
  omega
/-- a payload, and the error -/
def wrP (kind : UInt8) (l : List Pt) : List UInt8 × Int := if l.all Pt.good = true then (kind :: bytesP l, 0) else ([], 32)

open Go.Proofs.Ytfmhfngilimhjaa.Pa in
set_option maxHeartbeats 2000000 in
theorem write_any {A : Option Addr} {c : Nat} {ps : List Pt} (w : World) (h : Prs w A ps) (hal : ps.length ≤ 4) (hm : ∀ p ∈ ps, p.m ≤ 255) (kd : Nat) (hk : kd ≤ 255) :
    Calls Try.prog 63 #[.int .i64 (kd : Int), .slice A ps.length c] w fun e w' => e = .returned (.tuple #[.string ⟨(wrP (UInt8.ofNat kd) ps).1.toArray⟩, .int .i64 (wrP (UInt8.ofNat kd) ps).2]) ∧ Fr (fun _ => False) w w' := by
  have KC := containsp_any (c := c) w h (by omega)
  by_cases hg : ps.all Pt.good = true
  · have hw := widthP_take ps (fun p hp => (h.ok p hp).ne) ps.length (Nat.le_refl _)
    rw [List.take_length] at hw
    have hW : widthP ps ≤ 70368744177665 := by omega
    have hpre := widthP_pre hg
    have KW := fun W (f : Fr (fun _ => False) w W) => width_any (c := c) W (h.fr f).rd (fun p hp => ((h.fr f).ok p hp).ne) hal
    have e1 : wrP (UInt8.ofNat kd) ps = (UInt8.ofNat kd :: bytesP ps, 0) := by unfold wrP; rw [if_pos hg]
    have hgd : ∀ k (hk : k < ps.length), ∀ x ∈ ps[k].l, 0 ≤ x ∧ x ≤ 255 := fun k hk x hx => by
      have hx1 := (okL_iff.1 (List.all_eq_true.1 hg _ (List.getElem_mem hk))).2 x hx
      have := hm _ (List.getElem_mem hk)
      omega
    rw [hg] at KC
    rw [e1]
    clear e1 hg hm hw
    generalize widthP ps = W at *
    have HPRE := Lib.hid hpre
    have HGD := Lib.hid hgd
    have hmx : max (W : Int) 0 = W := by omega
    clear hpre hgd
    go_enter Try.func63, Try.ntmps63
    go_wp2_with fail
    refine KC.mono ?_
    rintro e w1 ⟨rfl, f1⟩
    go_wp2_with fail
    refine (KW w1 f1).mono ?_
    rintro e w2 ⟨rfl, f2⟩
    clear KC KW
    go_wp2_with fail
    refine (new_any _ w2).mono ?_
    rintro e w3 ⟨rfl, hw3⟩
    have Q3 := new_wr (W : Int) w2 (by omega)
    rw [← hw3, hmx] at Q3
    have f3 : Fr (fun _ => False) w w3 := by rw [hw3]; exact (fr_nil f1 f2).alloc _
    have hbz : w.heap.size ≤ w2.heap.size := (fr_nil f1 f2).size
    clear hw3 f1 f2
    generalize w2.heap.size = b at *
    go_wp2_with fail
    have Q4 := Wr.fr Q3 ((Fr.refl (fun _ => False) w3).alloc (.cells #[.int .i64 (kd : Int)] 3)) id (fun _ _ => id)
    have hne : blk (some ⟨w3.heap.size, 0, none⟩) ≠ some b := fun e => by
      have e' : w3.heap.size = b := by injection e
      have := Q3.lt
      omega
    refine (byte_any Q4 _ _ [(kd : Int)] (Rd.one w3 _ _) hne (fun _ e => by cases e) (by simp) (.inl (by show (W : Int) ≤ _; omega))).mono ?_
    rintro e w5 ⟨rfl, F5, Q5, M5⟩
    rw [nums_good [(kd : Int)] ⟨(W : Int), [], 0⟩ (by simp; omega) rfl (by have h0 : 1 + (bytesP (ps.take 0)).length ≤ W := HPRE.out 0; show ((0 : Nat) : Int) + ((0 + 1 : Nat) : Int) ≤ (W : Int); omega)] at Q5
    have Q5' : Wr w5 b F5 ⟨(W : Int), UInt8.ofNat kd :: bytesP (ps.take 0), 0⟩ := Q5
    have f4 := f3.alloc (.cells #[.int .i64 (kd : Int)] 3)
    have f5 : Fr (fun _ => False) w w5 := f4.trans M5.1 (fun k hk h => by rcases h with h | h; · omega
                                                                          · cases h)
    have hF5 : ∀ x, F5 = some x → w.heap.size ≤ x := fun x hx => by
      rcases M5.2 with e | ⟨g, e, hg⟩
      · rw [e] at hx; cases hx
      · rw [e] at hx
        injection hx with hx
        have := f4.size
        omega
    clear Q3 Q4 Q5 M5 f3 f4
    go_wp2_with fail
    go_loopw [20] (fun i wr => ∃ (k : Nat) (F : Option Nat), k ≤ ps.length ∧ i = .int .i64 (k : Nat) ∧ Wr wr b F ⟨(W : Int), UInt8.ofNat kd :: bytesP (ps.take k), 0⟩ ∧ Fr (fun _ => False) w wr ∧ ∀ x, F = some x → w.heap.size ≤ x) (fun i _ => ps.length - (intOf i).toNat)
    case atStart => exact ⟨0, F5, Nat.zero_le _, rfl, Q5', f5, hF5⟩
    case round =>
      clear Q5' f5 hF5
      obtain ⟨k, F, hk, rfl, Q, fr, hF⟩ := hrel
      by_cases hlt : k < ps.length
      · obtain ⟨g, o, rfl, _, q0, q1, q2⟩ := rd_pt (h.fr fr).rd hlt
        have fr1 : Fr (fun _ => False) wr (wr.alloc (.cells #[.int .i64 (ps[k].n : Int), .int .i64 ps[k].m, .pointer (some ⟨ps[k].b, ps[k].o, none⟩)] 162)) := (Fr.refl _ _).alloc _
        have ok0 := h.ok _ (List.getElem_mem hlt)
        have ok1 := (ok0.fr fr id (fun _ _ => id)).fr fr1 id (fun _ _ => id)
        have k3 := ok1.at_
        have Q1 := Wr.fr Q fr1 id (fun _ _ => id)
        have hpr := HPRE.out (k + 1)
        have hsn : bytesP (ps.take (k + 1)) = bytesP (ps.take k) ++ byL ps[k].l := by rw [List.take_succ_eq_append_getElem (by omega), bytesP_snoc]
        rw [hsn, List.length_append, byL_length] at hpr
        have hnum := nums_good ps[k].l ⟨(W : Int), UInt8.ofNat kd :: bytesP (ps.take k), 0⟩ (HGD.out k hlt) rfl (by simp only [List.length_cons]; omega)
        have hlt0 := ok0.lt2
        have KB := byte_all Q1 ps[k].A ps[k].c ps[k].l ok1.rd (fun h0 e => by have := hlt0 h0 _ e; omega) (fun h0 x hx e => by have := hlt0 h0 _ e; have := hF x hx; omega) (by have := ok0.le; omega) (.inl (by show (W : Int) ≤ _; omega))
        rw [hnum] at KB
        have HSN := Lib.hid hsn
        clear hnum hsn hpr ok0 ok1
        generalize ps[k] = x at *
        go_wp2_with fail
        refine KB.mono ?_
        rintro e w6 ⟨rfl, F6, Q6, M6⟩
        have f6 : Fr (fun _ => False) w w6 := (fr_nil fr fr1).trans M6.1 (fun j hj h => by
          rcases h with h | h
          · omega
          · have := hF j h
            omega)
        have hF6 : ∀ x, F6 = some x → w.heap.size ≤ x := fun x hx => by
          rcases M6.2 with e | ⟨g, e, hg⟩
          · rw [e] at hx; exact hF x hx
          · rw [e] at hx
            injection hx with hx
            have := (fr_nil fr fr1).size
            omega
        have Q6' : Wr w6 b F6 ⟨(W : Int), UInt8.ofNat kd :: bytesP (ps.take (k + 1)), 0⟩ := by rw [HSN.out]; exact Q6
        clear Q6 M6 KB Q Q1
        go_wp2_with fail
        go_roundw
        case rel => exact ⟨k + 1, F6, by omega, by go_num, Q6', f6, hF6⟩
        case measure => simp [intOf]; omega
      · have hk' : k = ps.length := by omega
        rw [hk', List.take_length] at Q
        have KD := done_any Q
        clear hk' Q
        go_wp2_with fail
        refine KD.mono ?_
        rintro e w6 ⟨rfl, q, rfl⟩
        go_wp2_with fail
        go_ret2
        exact ⟨rfl, fr.drewN q⟩
  · have hg' : ps.all Pt.good = false := by simpa using hg
    have e1 : wrP (UInt8.ofNat kd) ps = ([], 32) := by unfold wrP; rw [if_neg hg]
    rw [hg'] at KC
    rw [e1]
    clear hg hg' e1
    go_enter Try.func63, Try.ntmps63
    go_wp2_with fail
    refine KC.mono ?_
    rintro e w1 ⟨rfl, f1⟩
    go_wp2_with fail
    go_ret2
    exact ⟨rfl, f1⟩
end Go.Proofs.Ytfmhfngilimhjaa.Te

namespace Go.Proofs.Ytfmhfngilimhjaa.Te
open Go.RowKit

theorem flags_any (A : Option Addr) (n c b o : Nat) (w : World) :
    Calls Try.prog 87 #[.slice A n c, .pointer (some ⟨b, o, none⟩)] w fun e w' => e = .returned (.agg #[.int .i64 (n : Int), .int .i64 1, .pointer (some ⟨b, o, none⟩)]) ∧ Fr (fun _ => False) w w' := by
  go_enter Try.func87, Try.ntmps87
  go_wp2
  exact bodyPost_ret (v := .agg #[.int .i64 (n : Int), .int .i64 1, .pointer (some ⟨b, o, none⟩)]) (by simp [results, Try.results87, go_sem]) rfl ⟨rfl, (Fr.refl _ _).alloc _⟩
theorem positions_any (A : Option Addr) (n c b o : Nat) (w : World) :
    Calls Try.prog 88 #[.slice A n c, .pointer (some ⟨b, o, none⟩)] w fun e w' => e = .returned (.agg #[.int .i64 (n : Int), .int .i64 2, .pointer (some ⟨b, o, none⟩)]) ∧ Fr (fun _ => False) w w' := by
  go_enter Try.func88, Try.ntmps88
  go_wp2
  exact bodyPost_ret (v := .agg #[.int .i64 (n : Int), .int .i64 2, .pointer (some ⟨b, o, none⟩)]) (by simp [results, Try.results88, go_sem]) rfl ⟨rfl, (Fr.refl _ _).alloc _⟩
theorem aspects_any (A : Option Addr) (n c b o : Nat) (w : World) :
    Calls Try.prog 89 #[.slice A n c, .pointer (some ⟨b, o, none⟩)] w fun e w' => e = .returned (.agg #[.int .i64 (n : Int), .int .i64 2, .pointer (some ⟨b, o, none⟩)]) ∧ Fr (fun _ => False) w w' := by
  go_enter Try.func89, Try.ntmps89
  go_wp2
  exact bodyPost_ret (v := .agg #[.int .i64 (n : Int), .int .i64 2, .pointer (some ⟨b, o, none⟩)]) (by simp [results, Try.results89, go_sem]) rfl ⟨rfl, (Fr.refl _ _).alloc _⟩

/-- a slice of which the length alone is asked -/
structure Sl where
  A : Option Addr
  n : Nat
  c : Nat
/-- a shape, of which the sizes alone are asked -/
structure Sh where
  s : Sl
  p : Sl
  c : Sl
  g : Sl
def Sh.cells (h : Sh) : List Value := [.slice h.s.A h.s.n h.s.c, .slice h.p.A h.p.n h.p.c, .slice h.c.A h.c.n h.c.c, .slice h.g.A h.g.n h.g.c]
def Sh.val (h : Sh) : Value := .agg #[.slice h.s.A h.s.n h.s.c, .slice h.p.A h.p.n h.p.c, .slice h.c.A h.c.n h.c.c, .slice h.g.A h.g.n h.g.c]
def Sh.hs (h : Sh) : Hs := ⟨h.s.n, h.p.n, h.c.n, h.g.n⟩
structure Sh.Ok (h : Sh) : Prop where
  s : h.s.n ≤ 17592186044416
  p : h.p.n ≤ 17592186044416
  c : h.c.n ≤ 17592186044416
  g : h.g.n ≤ 17592186044416
theorem four_cells {w : World} {b : Nat} {t : TypeId} {a0 a1 a2 a3 : Value} (h : Is w b t #[a0, a1, a2, a3]) : w.cell? ⟨b, 0, none⟩ = some a0 ∧ w.cell? ⟨b, 1, none⟩ = some a1 ∧ w.cell? ⟨b, 2, none⟩ = some a2 ∧ w.cell? ⟨b, 3, none⟩ = some a3 :=
  ⟨(h.cell 0).trans rfl, (h.cell 1).trans rfl, (h.cell 2).trans rfl, (h.cell 3).trans rfl⟩
theorem new_rd (w : World) (xs : List Value) (t : TypeId) : Rd (w.alloc (.cells xs.toArray t)) (some ⟨w.heap.size, 0, none⟩) xs := fun _ =>
  ⟨w.heap.size, 0, rfl, by simp, fun j u hu => by
    rw [World.cell?_alloc_at _ _ _ _ rfl, Nat.zero_add]
    simpa using hu⟩

set_option maxHeartbeats 2000000 in
theorem sparts_any (h : Sh) (b : Nat) (w : World) :
    Calls Try.prog 64 #[h.val, .pointer (some ⟨b, 0, none⟩)] w fun e w' => ∃ g, e = .returned (.slice (some ⟨g, 0, none⟩) 4 4) ∧ Fr (fun _ => False) w w' ∧ w.heap.size ≤ g ∧
      Rd w' (some ⟨g, 0, none⟩) [.int .i64 (h.s.n : Int), .int .i64 1, .pointer (some ⟨b, 0, none⟩), .int .i64 (h.p.n : Int), .int .i64 2, .pointer (some ⟨b, 1, none⟩), .int .i64 (h.c.n : Int), .int .i64 1, .pointer (some ⟨b, 2, none⟩), .int .i64 (h.g.n : Int), .int .i64 1, .pointer (some ⟨b, 3, none⟩)] := by
  obtain ⟨⟨A1, n1, c1⟩, ⟨A2, n2, c2⟩, ⟨A3, n3, c3⟩, ⟨A4, n4, c4⟩⟩ := h
  unfold Sh.val
  simp only
  have is : Is (w.alloc (.cells #[.slice A1 n1 c1, .slice A2 n2 c2, .slice A3 n3 c3, .slice A4 n4 c4] 33)) w.heap.size 33 #[.slice A1 n1 c1, .slice A2 n2 c2, .slice A3 n3 c3, .slice A4 n4 c4] := Is.new _ _ _
  have f0 : Fr (fun _ => False) w (w.alloc (.cells #[.slice A1 n1 c1, .slice A2 n2 c2, .slice A3 n3 c3, .slice A4 n4 c4] 33)) := (Fr.refl _ w).alloc _
  generalize hw0 : w.alloc (.cells #[.slice A1 n1 c1, .slice A2 n2 c2, .slice A3 n3 c3, .slice A4 n4 c4] 33) = w0 at *
  have HW0 := Lib.hid hw0
  have s0 := four_cells is
  have KF := fun A n c o W => flags_any A n c b o W
  have KP := fun A n c o W => positions_any A n c b o W
  have IS := Lib.hid is
  clear is hw0
  go_enter Try.func64, Try.ntmps64
  go_wp2_with fail
  rw [HW0.out]
  have g3 : Fr (fun _ => False) w0 w0.drew := (Fr.refl _ w0).drew
  have s3 := four_cells (IS.out.fr g3 id)
  go_region_held3 (fun Wx => Wx.cell? ⟨w.heap.size, 0, none⟩ = some (.slice A1 n1 c1) ∧ Wx.cell? ⟨w.heap.size, 1, none⟩ = some (.slice A2 n2 c2) ∧ Wx.cell? ⟨w.heap.size, 2, none⟩ = some (.slice A3 n3 c3) ∧ Wx.cell? ⟨w.heap.size, 3, none⟩ = some (.slice A4 n4 c4)) (first | exact s3 | exact s4 | exact s5 | exact s6 | exact s7 | exact four_cells (IS.out.fr (g7.alloc _) id)) (first | (go_at_call 87; with_reducible refine (KF _ _ _ _ _).mono ?_; rintro e w7 ⟨rfl, f7⟩; have g7 := fr_nil g6 f7; have s7 := four_cells (IS.out.fr g7 id)) | (go_at_call 87; with_reducible refine (KF _ _ _ _ _).mono ?_; rintro e w6 ⟨rfl, f6⟩; have g6 := fr_nil g5 f6; have s6 := four_cells (IS.out.fr g6 id)) | (go_at_call 88; with_reducible refine (KP _ _ _ _ _).mono ?_; rintro e w5 ⟨rfl, f5⟩; have g5 := fr_nil g4 f5; have s5 := four_cells (IS.out.fr g5 id)) | (go_at_call 87; with_reducible refine (KF _ _ _ _ _).mono ?_; rintro e w4 ⟨rfl, f4⟩; have g4 := fr_nil g3 f4; have s4 := four_cells (IS.out.fr g4 id)))
  go_wp2
  go_ret
  exact ⟨_, rfl, (fr_nil f0 g7).alloc _, (fr_nil f0 g7).size, new_rd _ _ _⟩
set_option maxHeartbeats 2000000 in
theorem oparts_any (h : Sh) (b : Nat) (w : World) :
    Calls Try.prog 65 #[h.val, .pointer (some ⟨b, 0, none⟩)] w fun e w' => ∃ g, e = .returned (.slice (some ⟨g, 0, none⟩) 3 3) ∧ Fr (fun _ => False) w w' ∧ w.heap.size ≤ g ∧
      Rd w' (some ⟨g, 0, none⟩) [.int .i64 (h.p.n : Int), .int .i64 2, .pointer (some ⟨b, 0, none⟩), .int .i64 (h.g.n : Int), .int .i64 2, .pointer (some ⟨b, 1, none⟩), .int .i64 (h.c.n : Int), .int .i64 1, .pointer (some ⟨b, 2, none⟩)] := by
  obtain ⟨⟨A1, n1, c1⟩, ⟨A2, n2, c2⟩, ⟨A3, n3, c3⟩, ⟨A4, n4, c4⟩⟩ := h
  unfold Sh.val
  simp only
  have is : Is (w.alloc (.cells #[.slice A1 n1 c1, .slice A2 n2 c2, .slice A3 n3 c3, .slice A4 n4 c4] 33)) w.heap.size 33 #[.slice A1 n1 c1, .slice A2 n2 c2, .slice A3 n3 c3, .slice A4 n4 c4] := Is.new _ _ _
  have f0 : Fr (fun _ => False) w (w.alloc (.cells #[.slice A1 n1 c1, .slice A2 n2 c2, .slice A3 n3 c3, .slice A4 n4 c4] 33)) := (Fr.refl _ w).alloc _
  generalize hw0 : w.alloc (.cells #[.slice A1 n1 c1, .slice A2 n2 c2, .slice A3 n3 c3, .slice A4 n4 c4] 33) = w0 at *
  have HW0 := Lib.hid hw0
  have s0 := four_cells is
  have KF := fun A n c o W => flags_any A n c b o W
  have KP := fun A n c o W => positions_any A n c b o W
  have KA := fun A n c o W => aspects_any A n c b o W
  have IS := Lib.hid is
  clear is hw0
  go_enter Try.func65, Try.ntmps65
  go_wp2_with fail
  rw [HW0.out]
  have g3 : Fr (fun _ => False) w0 w0.drew := (Fr.refl _ w0).drew
  have s3 := four_cells (IS.out.fr g3 id)
  go_region_held3 (fun Wx => Wx.cell? ⟨w.heap.size, 0, none⟩ = some (.slice A1 n1 c1) ∧ Wx.cell? ⟨w.heap.size, 1, none⟩ = some (.slice A2 n2 c2) ∧ Wx.cell? ⟨w.heap.size, 2, none⟩ = some (.slice A3 n3 c3) ∧ Wx.cell? ⟨w.heap.size, 3, none⟩ = some (.slice A4 n4 c4)) (first | exact s3 | exact s4 | exact s5 | exact s6 | exact four_cells (IS.out.fr (g6.alloc _) id)) (first | (go_at_call 87; with_reducible refine (KF _ _ _ _ _).mono ?_; rintro e w6 ⟨rfl, f6⟩; have g6 := fr_nil g5 f6; have s6 := four_cells (IS.out.fr g6 id)) | (go_at_call 89; with_reducible refine (KA _ _ _ _ _).mono ?_; rintro e w5 ⟨rfl, f5⟩; have g5 := fr_nil g4 f5; have s5 := four_cells (IS.out.fr g5 id)) | (go_at_call 88; with_reducible refine (KP _ _ _ _ _).mono ?_; rintro e w4 ⟨rfl, f4⟩; have g4 := fr_nil g3 f4; have s4 := four_cells (IS.out.fr g4 id)))
  go_wp2
  go_ret
  exact ⟨_, rfl, (fr_nil f0 g6).alloc _, (fr_nil f0 g6).size, new_rd _ _ _⟩
end Go.Proofs.Ytfmhfngilimhjaa.Te

namespace Go.Proofs.Ytfmhfngilimhjaa.Te
open Go.RowKit

/-- a slice of numbers that is read -/
structure L3 where
  A : Option Addr
  l : List Int
  c : Nat
def L3.val (x : L3) : Value := .slice x.A x.l.length x.c
structure L3.Ok (w : World) (x : L3) : Prop where
  rd : Rd w x.A (x.l.map (Value.int .i64))
  le : x.l.length ≤ 17592186044416
  lt : 0 < x.l.length → ∀ k, blk x.A = some k → k < w.heap.size
theorem L3.Ok.fr {w w1 : World} {x : L3} {S : Nat → Prop} (h : x.Ok w) (f : Fr S w w1) (hn : ∀ k, blk x.A = some k → ¬ S k) : x.Ok w1 :=
  ⟨h.rd.fr f hn, h.le, fun h0 k hk => Nat.lt_of_lt_of_le (h.lt h0 k hk) f.size⟩
/-- a status that is read -/
structure Sta where
  occ : L3
  pos : L3
  shut : L3
  lamp : L3
def Sta.cells (x : Sta) : List Value := [.slice x.occ.A x.occ.l.length x.occ.c, .slice x.pos.A x.pos.l.length x.pos.c, .slice x.shut.A x.shut.l.length x.shut.c, .slice x.lamp.A x.lamp.l.length x.lamp.c]
def Sta.val (x : Sta) : Value := .agg #[.slice x.occ.A x.occ.l.length x.occ.c, .slice x.pos.A x.pos.l.length x.pos.c, .slice x.shut.A x.shut.l.length x.shut.c, .slice x.lamp.A x.lamp.l.length x.lamp.c]
def Sta.st (x : Sta) : St := ⟨x.occ.l, x.pos.l, x.shut.l, x.lamp.l⟩
structure Sta.Ok (w : World) (x : Sta) : Prop where
  occ : x.occ.Ok w
  pos : x.pos.Ok w
  shut : x.shut.Ok w
  lamp : x.lamp.Ok w
theorem Sta.Ok.fr {w w1 : World} {x : Sta} (h : x.Ok w) (f : Fr (fun _ => False) w w1) : x.Ok w1 :=
  ⟨h.occ.fr f fun _ _ => id, h.pos.fr f fun _ _ => id, h.shut.fr f fun _ _ => id, h.lamp.fr f fun _ _ => id⟩
structure Ods where
  pos : L3
  asp : L3
  shut : L3
def Ods.cells (x : Ods) : List Value := [.slice x.pos.A x.pos.l.length x.pos.c, .slice x.asp.A x.asp.l.length x.asp.c, .slice x.shut.A x.shut.l.length x.shut.c]
def Ods.val (x : Ods) : Value := .agg #[.slice x.pos.A x.pos.l.length x.pos.c, .slice x.asp.A x.asp.l.length x.asp.c, .slice x.shut.A x.shut.l.length x.shut.c]
def Ods.st (x : Ods) : Or := ⟨x.pos.l, x.asp.l, x.shut.l⟩
structure Ods.Ok (w : World) (x : Ods) : Prop where
  pos : x.pos.Ok w
  asp : x.asp.Ok w
  shut : x.shut.Ok w
theorem Ods.Ok.fr {w w1 : World} {x : Ods} (h : x.Ok w) (f : Fr (fun _ => False) w w1) : x.Ok w1 :=
  ⟨h.pos.fr f fun _ _ => id, h.asp.fr f fun _ _ => id, h.shut.fr f fun _ _ => id⟩

theorem L3.Ok.pt {w : World} {x : L3} (h : x.Ok w) {b o n : Nat} {m : Int} (hn : n ≤ 17592186044416) (hc : w.cell? ⟨b, o, none⟩ = some (.slice x.A x.l.length x.c)) : (Pt.mk n m b o x.A x.l x.c).Ok w :=
  ⟨hc, h.rd, h.le, hn, h.lt⟩
/-- the parts of a status that lies at b -/
def stPs (h : Hs) (b : Nat) (x : Sta) : List Pt := [⟨h.s, 1, b, 0, x.occ.A, x.occ.l, x.occ.c⟩, ⟨h.p, 2, b, 1, x.pos.A, x.pos.l, x.pos.c⟩, ⟨h.c, 1, b, 2, x.shut.A, x.shut.l, x.shut.c⟩, ⟨h.g, 1, b, 3, x.lamp.A, x.lamp.l, x.lamp.c⟩]
def orPs (h : Hs) (b : Nat) (x : Ods) : List Pt := [⟨h.p, 2, b, 0, x.pos.A, x.pos.l, x.pos.c⟩, ⟨h.g, 2, b, 1, x.asp.A, x.asp.l, x.asp.c⟩, ⟨h.c, 1, b, 2, x.shut.A, x.shut.l, x.shut.c⟩]
theorem all_st (h : Hs) (b : Nat) (x : Sta) : (stPs h b x).all Pt.good = x.st.ok h := by
  show (okL _ _ _ && (okL _ _ _ && (okL _ _ _ && (okL _ _ _ && true)))) = _
  rw [Bool.and_true]
  rfl
theorem all_or (h : Hs) (b : Nat) (x : Ods) : (orPs h b x).all Pt.good = x.st.ok h := by
  show (okL _ _ _ && (okL _ _ _ && (okL _ _ _ && true))) = _
  rw [Bool.and_true]
  rfl
theorem wr_st (h : Hs) (b : Nat) (x : Sta) : wrP 1 (stPs h b x) = stL h x.st := by
  unfold wrP stL
  rw [all_st]
  have e : (1 : UInt8) :: bytesP (stPs h b x) = x.st.bytes := by
    show (1 : UInt8) :: (byL _ ++ (byL _ ++ (byL _ ++ (byL _ ++ [])))) = _
    rw [List.append_nil]
    rfl
  rw [e]
theorem wr_or (h : Hs) (b : Nat) (x : Ods) : wrP 2 (orPs h b x) = orL h x.st := by
  unfold wrP orL
  rw [all_or]
  have e : (2 : UInt8) :: bytesP (orPs h b x) = x.st.bytes := by
    show (2 : UInt8) :: (byL _ ++ (byL _ ++ (byL _ ++ []))) = _
    rw [List.append_nil]
    rfl
  rw [e]

theorem three_cells {w : World} {b : Nat} {t : TypeId} {a0 a1 a2 : Value} (h : Is w b t #[a0, a1, a2]) : w.cell? ⟨b, 0, none⟩ = some a0 ∧ w.cell? ⟨b, 1, none⟩ = some a1 ∧ w.cell? ⟨b, 2, none⟩ = some a2 :=
  ⟨(h.cell 0).trans rfl, (h.cell 1).trans rfl, (h.cell 2).trans rfl⟩
theorem status_any {h : Sh} (hh : h.Ok) {x : Sta} {w : World} (hx : x.Ok w) :
    Calls Try.prog 28 #[h.val, x.val] w fun e w' => e = .returned (.tuple #[.string ⟨(stL h.hs x.st).1.toArray⟩, .int .i64 (stL h.hs x.st).2]) ∧ Fr (fun _ => False) w w' := by
  have fa := (Fr.refl (fun _ => False) w).alloc (.cells h.cells.toArray 33)
  have fb := fa.alloc (.cells x.cells.toArray 65)
  have ix : Is ((w.alloc (.cells h.cells.toArray 33)).alloc (.cells x.cells.toArray 65)) (w.heap.size + 1) 65 x.cells.toArray := by
    have := Is.new (w.alloc (.cells h.cells.toArray 33)) 65 x.cells.toArray
    simpa using this
  have KS := sparts_any h (w.heap.size + 1)
  have KW := fun (W : World) (A : Option Addr) (k : Prs W A (stPs h.hs (w.heap.size + 1) x)) => write_any (c := 4) W k (by simp [stPs]) (by simp [stPs]) 1 (by decide)
  rw [show UInt8.ofNat 1 = 1 from rfl, wr_st] at KW
  generalize stL h.hs x.st = R at *
  have HX := Lib.hid hx
  have IX := Lib.hid ix
  have HH := Lib.hid hh
  clear hx ix hh
  go_enter Try.func28, Try.ntmps28
  unfold Sh.val Sta.val Sh.cells Sta.cells at *
  go_wp2_with fail
  refine (KS _).mono ?_
  rintro e w1 ⟨g, rfl, f1, _, r1⟩
  have P1 : Prs w1 (some ⟨g, 0, none⟩) (stPs h.hs (w.heap.size + 1) x) := by
    have HX1 := HX.out.fr (fr_nil fb f1)
    obtain ⟨c0, c1, c2, c3⟩ := four_cells (IX.out.fr f1 id)
    refine ⟨r1, fun p hp => ?_⟩
    simp only [stPs, List.mem_cons, List.not_mem_nil, or_false] at hp
    rcases hp with rfl | rfl | rfl | rfl
    · exact HX1.occ.pt HH.out.s c0
    · exact HX1.pos.pt HH.out.p c1
    · exact HX1.shut.pt HH.out.c c2
    · exact HX1.lamp.pt HH.out.g c3
  have KW1 := KW w1 _ P1
  clear KW KS
  go_wp2_with fail
  refine KW1.mono ?_
  rintro e w2 ⟨rfl, f2⟩
  go_wp2
  go_ret2
  exact ⟨rfl, fr_nil (fr_nil fb f1) f2⟩
theorem orders_any {h : Sh} (hh : h.Ok) {x : Ods} {w : World} (hx : x.Ok w) :
    Calls Try.prog 29 #[h.val, x.val] w fun e w' => e = .returned (.tuple #[.string ⟨(orL h.hs x.st).1.toArray⟩, .int .i64 (orL h.hs x.st).2]) ∧ Fr (fun _ => False) w w' := by
  have fa := (Fr.refl (fun _ => False) w).alloc (.cells h.cells.toArray 33)
  have fb := fa.alloc (.cells x.cells.toArray 73)
  have ix : Is ((w.alloc (.cells h.cells.toArray 33)).alloc (.cells x.cells.toArray 73)) (w.heap.size + 1) 73 x.cells.toArray := by
    have := Is.new (w.alloc (.cells h.cells.toArray 33)) 73 x.cells.toArray
    simpa using this
  have KS := oparts_any h (w.heap.size + 1)
  have KW := fun (W : World) (A : Option Addr) (k : Prs W A (orPs h.hs (w.heap.size + 1) x)) => write_any (c := 3) W k (by simp [orPs]) (by simp [orPs]) 2 (by decide)
  rw [show UInt8.ofNat 2 = 2 from rfl, wr_or] at KW
  generalize orL h.hs x.st = R at *
  have HX := Lib.hid hx
  have IX := Lib.hid ix
  have HH := Lib.hid hh
  clear hx ix hh
  go_enter Try.func29, Try.ntmps29
  unfold Sh.val Ods.val Sh.cells Ods.cells at *
  go_wp2_with fail
  refine (KS _).mono ?_
  rintro e w1 ⟨g, rfl, f1, _, r1⟩
  have P1 : Prs w1 (some ⟨g, 0, none⟩) (orPs h.hs (w.heap.size + 1) x) := by
    have HX1 := HX.out.fr (fr_nil fb f1)
    obtain ⟨c0, c1, c2⟩ := three_cells (IX.out.fr f1 id)
    refine ⟨r1, fun p hp => ?_⟩
    simp only [orPs, List.mem_cons, List.not_mem_nil, or_false] at hp
    rcases hp with rfl | rfl | rfl
    · exact HX1.pos.pt HH.out.p c0
    · exact HX1.asp.pt HH.out.g c1
    · exact HX1.shut.pt HH.out.c c2
  have KW1 := KW w1 _ P1
  clear KW KS
  go_wp2_with fail
  refine KW1.mono ?_
  rintro e w2 ⟨rfl, f2⟩
  go_wp2
  go_ret2
  exact ⟨rfl, fr_nil (fr_nil fb f1) f2⟩
end Go.Proofs.Ytfmhfngilimhjaa.Te

namespace Go.Proofs.Ytfmhfngilimhjaa.Te
open Go.RowKit Go.Proofs.Ytfmhfngilimhjaa.Pa

def Bl.val (x : Bl) : Value := .agg #[.int .i64 x.a, .int .i64 x.d, .int .i64 x.g]

set_option maxHeartbeats 1000000 in
theorem block_any (a d g : Int) (w : World) :
    Calls Try.prog 30 #[.agg #[.int .i64 a, .int .i64 d, .int .i64 g]] w fun e w' => e = .returned (.tuple #[.string ⟨(blL a d g).1.toArray⟩, .int .i64 (blL a d g).2]) ∧ Fr (fun _ => False) w w' := by
  have i0 : Is (w.alloc (.cells #[.int .i64 a, .int .i64 d, .int .i64 g] 76)) w.heap.size 76 #[.int .i64 a, .int .i64 d, .int .i64 g] := Is.new _ _ _
  have f0 : Fr (fun _ => False) w (w.alloc (.cells #[.int .i64 a, .int .i64 d, .int .i64 g] 76)) := (Fr.refl _ w).alloc _
  have hb0 : (w.alloc (.cells #[.int .i64 a, .int .i64 d, .int .i64 g] 76)).heap.size = w.heap.size + 1 := by simp
  go_enter Try.func30, Try.ntmps30
  go_wp2_with fail
  refine (new_any _ _).mono ?_
  rintro e w1 ⟨rfl, hw1⟩
  have Q1 := new_wr 13 (w.alloc (.cells #[.int .i64 a, .int .i64 d, .int .i64 g] 76)) (by omega)
  have f1 : Fr (fun _ => False) w w1 := by rw [hw1]; exact f0.alloc _
  have i1 : Is w1 w.heap.size 76 #[.int .i64 a, .int .i64 d, .int .i64 g] := by rw [hw1]; exact i0.alloc _
  rw [← hw1, show max (13 : Int) 0 = 13 from rfl, hb0] at Q1
  clear hw1 i0 f0
  simp only [World.size_alloc]
  go_wp2_with fail
  have Q2 := Wr.fr Q1 ((Fr.refl (fun _ => False) w1).alloc (.cells #[.int .i64 3] 3)) id (fun _ _ => id)
  have hlt := Q1.lt
  refine (byte_any Q2 _ _ [(3 : Int)] (Rd.one w1 _ _) (blk_ne (by omega)) (fun _ e => by cases e) (by simp) (.inl (by show (13 : Int) ≤ _; omega))).mono ?_
  rintro e w3 ⟨rfl, F3, Q3, M3⟩
  have i3 : Is w3 w.heap.size 76 #[.int .i64 a, .int .i64 d, .int .i64 g] := mv_is (i1.alloc _) M3 (by omega) (fun e => by cases e)
  obtain ⟨f3, hF3⟩ := mv_fr (f1.alloc (.cells #[.int .i64 3] 3)) M3 (by omega) (fun _ e => by cases e)
  obtain ⟨c0, c1, c2⟩ : w3.cell? ⟨w.heap.size, 0, none⟩ = some (.int .i64 a) ∧ w3.cell? ⟨w.heap.size, 1, none⟩ = some (.int .i64 d) ∧ w3.cell? ⟨w.heap.size, 2, none⟩ = some (.int .i64 g) := ⟨(i3.cell 0).trans rfl, (i3.cell 1).trans rfl, (i3.cell 2).trans rfl⟩
  clear Q1 Q2 M3 f1 i1 hlt hb0 i3
  go_wp2_with fail
  have Q4 := Wr.fr Q3 ((Fr.refl (fun _ => False) w3).alloc (.cells #[.int .i64 a, .int .i64 d, .int .i64 g] 3)) id (fun _ _ => id)
  have r4 : Rd (w3.alloc (.cells #[.int .i64 a, .int .i64 d, .int .i64 g] 3)) (some ⟨w3.heap.size, 0, none⟩) ([a, d, g].map (Value.int .i64)) := ints_rd w3 [a, d, g]
  have hlt := Q3.lt
  refine (long_any Q4 _ _ [a, d, g] r4 (blk_ne (by omega)) (fun k hk => blk_ne (by have := Q3.ltF k hk; omega)) (by simp) (.inl (by rw [Pk.S.nums_L]; show (13 : Int) ≤ _; omega))).mono ?_
  rintro e w5 ⟨rfl, F5, Q5, M5⟩
  obtain ⟨f5, _⟩ := mv_fr (f3.alloc (.cells #[.int .i64 a, .int .i64 d, .int .i64 g] 3)) M5 (by omega) hF3
  clear Q3 Q4 M5 f3 hlt hF3 r4 c0 c1 c2
  have KD := done_any Q5
  have eN : (((⟨13, [], 0⟩ : Pk.S).nums 1 [3]).nums 4 [a, d, g]).done = blL a d g := nums_bl a d g
  rw [eN] at KD
  clear Q5 eN
  go_wp2_with fail
  refine KD.mono ?_
  rintro e w6 ⟨rfl, q, rfl⟩
  go_wp2
  go_ret2
  exact ⟨rfl, f5.drewN q⟩

/-- the reader's way through a block's payload -/
theorem rbl_way (s : ByteArray) : rblL (bytesOf s) = if val (bytesOf ((⟨s, false⟩ : Rs).tk 1)) = 3 ∧ (((((⟨s, false⟩ : Rs).aft 1).aft 4).aft 4).aft 4).fin = 0 then (⟨val (bytesOf (((⟨s, false⟩ : Rs).aft 1).tk 4)), val (bytesOf ((((⟨s, false⟩ : Rs).aft 1).aft 4).tk 4)), val (bytesOf (((((⟨s, false⟩ : Rs).aft 1).aft 4).aft 4).tk 4))⟩, 0) else (⟨0, 0, 0⟩, 3) := by
  unfold rblL
  rw [bytesOf_length]
  by_cases hs : s.size = 13
  · obtain ⟨e1, e2, e3, e4, e5, e6⟩ := reads_bl s hs
    have hf : (((((⟨s, false⟩ : Rs).aft 1).aft 4).aft 4).aft 4).fin = 0 := by
      unfold Rs.fin
      rw [e5, if_neg (by decide), if_pos (by rw [size_of, e6]; rfl)]
    rw [hf, e1, e2, e3, e4]
    by_cases hk : val ((bytesOf s).take 1) = 3
    · rw [if_pos ⟨hs, hk⟩, if_pos ⟨hk, rfl⟩]
    · rw [if_neg (fun h => hk h.2), if_neg (fun h => hk h.1)]
  · have hf : (((((⟨s, false⟩ : Rs).aft 1).aft 4).aft 4).aft 4).fin ≠ 0 := by
      unfold Rs.fin
      rcases reads_no s hs with h | h
      · rw [h, if_pos rfl]; decide
      · split
        · decide
        · rw [if_neg (by omega)]; decide
    rw [if_neg (fun h => hs h.1), if_neg (fun h => hf h.2)]
theorem three6 {w : World} {b : Nat} {t : TypeId} {a0 a1 a2 : Value} (h : Is w b t #[a0, a1, a2]) : w.cell? ⟨b, 0, none⟩ = some a0 ∧ w.cell? ⟨b, 1, none⟩ = some a1 ∧ w.cell? ⟨b, 2, none⟩ = some a2 :=
  ⟨(h.cell 0).trans rfl, (h.cell 1).trans rfl, (h.cell 2).trans rfl⟩
end Go.Proofs.Ytfmhfngilimhjaa.Te

namespace Go.Proofs.Ytfmhfngilimhjaa.Te
open Go.RowKit

theorem lit_ok {W0 W : World} {b : Nat} {l : List Int} {c : Nat} (hb : b = W0.heap.size) (hl : l.length ≤ 17592186044416) (F : Fr (fun _ => False) (W0.alloc (.cells (l.map (Value.int .i64)).toArray 3)) W) : (L3.mk (some ⟨b, 0, none⟩) l c).Ok W := by
  subst hb
  refine ⟨(new_rd W0 _ _).fr F fun _ _ => id, hl, fun _ k hk => ?_⟩
  have e : W0.heap.size = k := by injection hk
  have := F.size
  simp at this
  omega

def liSh (b : Nat) : Sh := ⟨⟨some ⟨b, 0, none⟩, 2, 2⟩, ⟨some ⟨b + 1, 0, none⟩, 1, 1⟩, ⟨some ⟨b + 2, 0, none⟩, 1, 1⟩, ⟨some ⟨b + 3, 0, none⟩, 1, 1⟩⟩
theorem liSh_ok (b : Nat) : (liSh b).Ok := ⟨by show 2 ≤ _; decide, by show 1 ≤ _; decide, by show 1 ≤ _; decide, by show 1 ≤ _; decide⟩
def liSt (b : Nat) : Sta := ⟨⟨some ⟨b, 0, none⟩, [1, 0], 2⟩, ⟨some ⟨b + 1, 0, none⟩, [2], 1⟩, ⟨some ⟨b + 2, 0, none⟩, [1], 1⟩, ⟨some ⟨b + 3, 0, none⟩, [1], 1⟩⟩
def liOr (b : Nat) : Ods := ⟨⟨some ⟨b, 0, none⟩, [0], 1⟩, ⟨some ⟨b + 1, 0, none⟩, [2], 1⟩, ⟨some ⟨b + 2, 0, none⟩, [0], 1⟩⟩
theorem li1 : stL ⟨2, 1, 1, 1⟩ ⟨[1, 0], [2], [1], [1]⟩ = ([1, 1, 0, 2, 1, 1], 0) := by decide
theorem li2 : orL ⟨2, 1, 1, 1⟩ ⟨[0], [2], [0]⟩ = ([2, 0, 2, 0], 0) := by decide
theorem li3 : blL 1 0 7 = ([3, 0, 0, 0, 1, 0, 0, 0, 0, 0, 0, 0, 7], 0) := by decide

set_option maxRecDepth 100000 in
set_option maxHeartbeats 1000000 in
theorem lives_any (w : World) : Calls Try.prog 8 #[] w fun e w' => e = .returned (.bool true) ∧ Fr (fun _ => False) w w' := by
  have KB := fun W => block_any 1 0 7 W
  rw [li3] at KB
  have F5 : Fr (fun _ => False) w (((((w.alloc (.cells #[.int .i64 1, .int .i64 2] 3)).alloc (.cells #[.int .i64 1] 3)).alloc (.cells #[.int .i64 0] 3)).alloc (.cells #[.int .i64 1] 3)).alloc (.cells #[.slice (some ⟨w.heap.size, 0, none⟩) 2 2, .slice (some ⟨w.heap.size + 1, 0, none⟩) 1 1, .slice (some ⟨w.heap.size + 1 + 1, 0, none⟩) 1 1, .slice (some ⟨w.heap.size + 1 + 1 + 1, 0, none⟩) 1 1] 33)) := (((((Fr.refl _ w).alloc _).alloc _).alloc _).alloc _).alloc _
  have z5 : (((((w.alloc (.cells #[.int .i64 1, .int .i64 2] 3)).alloc (.cells #[.int .i64 1] 3)).alloc (.cells #[.int .i64 0] 3)).alloc (.cells #[.int .i64 1] 3)).alloc (.cells #[.slice (some ⟨w.heap.size, 0, none⟩) 2 2, .slice (some ⟨w.heap.size + 1, 0, none⟩) 1 1, .slice (some ⟨w.heap.size + 1 + 1, 0, none⟩) 1 1, .slice (some ⟨w.heap.size + 1 + 1 + 1, 0, none⟩) 1 1] 33)).heap.size = w.heap.size + 5 := by simp
  have i5 : Is (((((w.alloc (.cells #[.int .i64 1, .int .i64 2] 3)).alloc (.cells #[.int .i64 1] 3)).alloc (.cells #[.int .i64 0] 3)).alloc (.cells #[.int .i64 1] 3)).alloc (.cells #[.slice (some ⟨w.heap.size, 0, none⟩) 2 2, .slice (some ⟨w.heap.size + 1, 0, none⟩) 1 1, .slice (some ⟨w.heap.size + 1 + 1, 0, none⟩) 1 1, .slice (some ⟨w.heap.size + 1 + 1 + 1, 0, none⟩) 1 1] 33)) (w.heap.size + 4) 33 #[.slice (some ⟨w.heap.size, 0, none⟩) 2 2, .slice (some ⟨w.heap.size + 1, 0, none⟩) 1 1, .slice (some ⟨w.heap.size + 1 + 1, 0, none⟩) 1 1, .slice (some ⟨w.heap.size + 1 + 1 + 1, 0, none⟩) 1 1] := by
    have := Is.new ((((w.alloc (.cells #[.int .i64 1, .int .i64 2] 3)).alloc (.cells #[.int .i64 1] 3)).alloc (.cells #[.int .i64 0] 3)).alloc (.cells #[.int .i64 1] 3)) 33 #[.slice (some ⟨w.heap.size, 0, none⟩) 2 2, .slice (some ⟨w.heap.size + 1, 0, none⟩) 1 1, .slice (some ⟨w.heap.size + 1 + 1, 0, none⟩) 1 1, .slice (some ⟨w.heap.size + 1 + 1 + 1, 0, none⟩) 1 1]
    simpa using this
  obtain ⟨w5, hw5⟩ : ∃ w5, w5 = ((((w.alloc (.cells #[.int .i64 1, .int .i64 2] 3)).alloc (.cells #[.int .i64 1] 3)).alloc (.cells #[.int .i64 0] 3)).alloc (.cells #[.int .i64 1] 3)).alloc (.cells #[.slice (some ⟨w.heap.size, 0, none⟩) 2 2, .slice (some ⟨w.heap.size + 1, 0, none⟩) 1 1, .slice (some ⟨w.heap.size + 1 + 1, 0, none⟩) 1 1, .slice (some ⟨w.heap.size + 1 + 1 + 1, 0, none⟩) 1 1] 33) := ⟨_, rfl⟩
  rw [← hw5] at F5 z5 i5
  have HW := Lib.hid hw5
  have HI := Lib.hid i5
  have HF := Lib.hid F5
  have HZ := Lib.hid z5
  clear hw5 F5 z5 i5
  go_enter Try.func8, Try.ntmps8
  go_wp2_with fail
  rw [← HW.out]
  have fA : ∀ (o0 o1 o2 o3 : Obj), Fr (fun _ => False) w5 ((((w5.alloc o0).alloc o1).alloc o2).alloc o3) := fun _ _ _ _ => ((((Fr.refl _ w5).alloc _).alloc _).alloc _).alloc _
  have ok : (liSt (w.heap.size + 5)).Ok ((((w5.alloc (.cells #[.int .i64 1, .int .i64 0] 3)).alloc (.cells #[.int .i64 2] 3)).alloc (.cells #[.int .i64 1] 3)).alloc (.cells #[.int .i64 1] 3)) := by
    have hz := HZ.out
    refine ⟨lit_ok (W0 := w5) (by omega) (by decide) ((((Fr.refl _ _).alloc _).alloc _).alloc _), lit_ok (W0 := w5.alloc (.cells #[.int .i64 1, .int .i64 0] 3)) (by simp; omega) (by decide) (((Fr.refl _ _).alloc _).alloc _), lit_ok (W0 := (w5.alloc (.cells #[.int .i64 1, .int .i64 0] 3)).alloc (.cells #[.int .i64 2] 3)) (by simp; omega) (by decide) ((Fr.refl _ _).alloc _), lit_ok (W0 := ((w5.alloc (.cells #[.int .i64 1, .int .i64 0] 3)).alloc (.cells #[.int .i64 2] 3)).alloc (.cells #[.int .i64 1] 3)) (by simp; omega) (by decide) (Fr.refl _ _)⟩
  have KS := status_any (liSh_ok w.heap.size) ok
  rw [show stL (liSh w.heap.size).hs (liSt (w.heap.size + 5)).st = ([1, 1, 0, 2, 1, 1], 0) from li1] at KS
  have fB := fr_nil HF.out (fA (.cells #[.int .i64 1, .int .i64 0] 3) (.cells #[.int .i64 2] 3) (.cells #[.int .i64 1] 3) (.cells #[.int .i64 1] 3))
  have iB := HI.out.fr (fA (.cells #[.int .i64 1, .int .i64 0] 3) (.cells #[.int .i64 2] 3) (.cells #[.int .i64 1] 3) (.cells #[.int .i64 1] 3)) id
  clear fA ok
  generalize (((w5.alloc (.cells #[.int .i64 1, .int .i64 0] 3)).alloc (.cells #[.int .i64 2] 3)).alloc (.cells #[.int .i64 1] 3)).alloc (.cells #[.int .i64 1] 3) = wB at *
  refine KS.mono ?_
  rintro e w6 ⟨rfl, f6⟩
  have i6 := iB.fr f6 id
  have F6 := Lib.hid (fr_nil fB f6)
  obtain ⟨c0, c1, c2, c3⟩ := four_cells i6
  have HI6 := Lib.hid i6
  clear KS fB iB f6 HI HF HZ HW i6
  go_wp2_with fail
  have ok2 : (liOr w6.heap.size).Ok (((w6.alloc (.cells #[.int .i64 0] 3)).alloc (.cells #[.int .i64 2] 3)).alloc (.cells #[.int .i64 0] 3)) :=
    ⟨lit_ok (W0 := w6) rfl (by decide) (((Fr.refl _ _).alloc _).alloc _), lit_ok (W0 := w6.alloc (.cells #[.int .i64 0] 3)) (by simp) (by decide) ((Fr.refl _ _).alloc _), lit_ok (W0 := (w6.alloc (.cells #[.int .i64 0] 3)).alloc (.cells #[.int .i64 2] 3)) (by simp) (by decide) (Fr.refl _ _)⟩
  have KO := orders_any (liSh_ok w.heap.size) ok2
  rw [show orL (liSh w.heap.size).hs (liOr w6.heap.size).st = ([2, 0, 2, 0], 0) from li2] at KO
  have fC := fr_nil F6.out ((((Fr.refl (fun _ => False) w6).alloc (.cells #[.int .i64 0] 3)).alloc (.cells #[.int .i64 2] 3)).alloc (.cells #[.int .i64 0] 3))
  clear ok2
  generalize ((w6.alloc (.cells #[.int .i64 0] 3)).alloc (.cells #[.int .i64 2] 3)).alloc (.cells #[.int .i64 0] 3) = wC at *
  refine KO.mono ?_
  rintro e w7 ⟨rfl, f7⟩
  have F7 := Lib.hid (fr_nil fC f7)
  clear KO fC f7 HI6 c0 c1 c2 c3 F6
  go_wp2_with fail
  refine (KB w7).mono ?_
  rintro e w8 ⟨rfl, f8⟩
  have F8 := Lib.hid (fr_nil F7.out f8)
  clear KB f8 F7
  go_wp2_with fail
  go_ret
  exact ⟨rfl, F8.out⟩
end Go.Proofs.Ytfmhfngilimhjaa.Te


/- Contracts and plain mathematics of earlier stages: Tnext, Tread, Trplain, Trst. -/
import Derived.Test.YtfmhfngilimhjaaTb
import Derived.Test.YtfmhfngilimhjaaKp
import Derived.Deep.RegionHeld3
namespace Go.Proofs.Ytfmhfngilimhjaa.Te
open Go.RowKit Go.Proofs.Ytfmhfngilimhjaa.Pa

/-- a row of which the first k numbers were read -/
def part (t : List UInt8) (n k : Nat) : List Value := ((inL (t.take k)).map (Value.int .i64)) ++ List.replicate (n - k) (.int .i64 0)
theorem part_length {t : List UInt8} {n k : Nat} (ht : n ≤ t.length) (hk : k ≤ n) : (part t n k).length = n := by
  unfold part
  rw [List.length_append, List.length_map, inL_length, List.length_take, List.length_replicate]
  omega
theorem part_set {t : List UInt8} {n k : Nat} (ht : n ≤ t.length) (hk : k < n) : (part t n k).toArray.setIfInBounds k (.int .i64 (t[k].toNat : Int)) = (part t n (k + 1)).toArray := by
  unfold part
  have hl : ((inL (t.take k)).map (Value.int .i64)).length = k := by rw [List.length_map, inL_length, List.length_take]; omega
  apply Array.ext'
  rw [Array.toList_setIfInBounds]
  show List.set _ _ _ = _
  rw [List.set_append_right _ _ (by omega), hl, Nat.sub_self, show n - k = (n - (k + 1)) + 1 by omega, List.replicate_succ, List.set_cons_zero]
  rw [List.take_succ_eq_append_getElem (show k < t.length by omega)]
  unfold inL
  rw [List.map_append, List.map_append, List.append_assoc]
  rfl
theorem part_all {t : List UInt8} {n : Nat} : part t n n = (inL (t.take n)).map (Value.int .i64) := by
  unfold part
  rw [Nat.sub_self, List.replicate_zero, List.append_nil]

theorem mk_ints0 (n : Nat) (hn : n * 8 ≤ 140737488355328) (W : World) : (Instr.makeSlice 25 (.int .i64 (n : Int)) (.int .i64 (n : Int))).run Try.prog W = .ok (.slice (some ⟨W.heap.size, 0, none⟩) n n) (W.alloc (.cells (List.replicate n (Value.int .i64 0)).toArray 3)) := by
  obtain ⟨i0, hi, hz0, hz1, hz2⟩ := info_parts Try.infoI
  have h := run_make (P := Try.prog) W 25 3 i0 (.int .i64 0) Try.underlying25 hi hz0 .i64 .i64 n n (by omega) (by omega) (by rw [hz2]; omega) (by omega)
  have e : madeCells (Value.int .i64 0).cells n = (List.replicate n (Value.int .i64 0)).toArray := by
    apply Array.ext'
    rw [← toList_madeCells_one]
    rfl
  simpa [hz1, e] using h
theorem mk_ints (n : Nat) (hn : n * 8 ≤ 140737488355328) (W : World) : (Instr.makeSlice 25 (.int .i64 (n : Int)) (.int .i64 (n : Int))).run Try.prog W = .ok (.slice (some ⟨W.heap.size, 0, none⟩) n n) (W.alloc (.cells (Array.replicate n (Value.int .i64 0)) 3)) := by
  have := mk_ints0 n hn W
  rwa [List.toArray_replicate] at this

set_option maxHeartbeats 1000000 in
theorem next_any {w : World} {b n : Nat} {s : ByteArray} (h : Re w b s false) (hn : n ≤ s.size) (hm : n ≤ 17592186044416) :
    Calls Try.prog 110 #[.pointer (some ⟨b, 0, none⟩), .int .i64 (n : Int)] w fun e w' =>
      ∃ g s', e = .returned (.slice (some ⟨g, 0, none⟩) n n) ∧ w.heap.size ≤ g ∧ g < w'.heap.size ∧ Rd w' (some ⟨g, 0, none⟩) ((inL ((bytesOf s).take n)).map (Value.int .i64)) ∧ Re w' b s' false ∧ bytesOf s' = (bytesOf s).drop n ∧ Fr (fun k => k = b) w w' := by
  have hsz : n ≤ (bytesOf s).length := by rw [bytesOf_length]; exact hn
  have hb := h.lt
  generalize hs0 : bytesOf s = t at *
  have hs : bytesOf s = t.drop 0 := hs0
  clear hs0
  have hmk := fun W => mk_ints n (by omega) W
  have HN := Lib.hid hn
  have HM := Lib.hid hm
  clear hm hn
  go_enter Try.func110, Try.ntmps110
  go_wp2_with fail
  have f0 : Fr (fun _ => False) w (w.alloc (.cells (Array.replicate n (Value.int .i64 0)) 3)) := (Fr.refl _ w).alloc _
  have i0 : Is (w.alloc (.cells (Array.replicate n (Value.int .i64 0)) 3)) w.heap.size 3 (part t n 0).toArray := by
    have e : (part t n 0).toArray = Array.replicate n (Value.int .i64 0) := by
      show (List.replicate (n - 0) _).toArray = _
      rw [List.toArray_replicate, Nat.sub_zero]
    rw [e]
    exact Is.new _ _ _
  have R0 : Re (w.alloc (.cells (Array.replicate n (Value.int .i64 0)) 3)) b s false := Is.alloc h _
  generalize w.alloc (.cells (Array.replicate n (Value.int .i64 0)) 3) = w0 at *
  have HS := Lib.hid hs
  clear hs
  clear h hmk
  go_loopw [11] (fun i wr => ∃ (k : Nat) (sk : ByteArray), k ≤ n ∧ i = .int .i64 (k : Nat) ∧ Re wr b sk false ∧ bytesOf sk = t.drop k ∧ Is wr w.heap.size 3 (part t n k).toArray ∧ Fr (fun k => k = b) w wr) (fun i _ => n - (intOf i).toNat)
  case atStart => exact ⟨0, s, Nat.zero_le _, rfl, R0, HS.out, i0, f0.mono fun _ _ h => h.elim⟩
  case round =>
    clear R0 i0 f0
    obtain ⟨k, sk, hk, rfl, R, hsk, ir, fr⟩ := hrel
    have hn9 : (n : Int) ≤ 17592186044416 := by have := HM.out; omega
    by_cases hlt : k < n
    · have KB := rbyte_any (r := ⟨sk, false⟩) R
      have hne : t.drop k ≠ [] := fun e => by
        have := congrArg List.length e
        rw [List.length_drop] at this
        simp at this
        omega
      obtain ⟨e1, e2, e3⟩ : val (bytesOf ((⟨sk, false⟩ : Rs).tk 1)) = (t[k].toNat : Int) ∧ bytesOf ((⟨sk, false⟩ : Rs).aft 1).s = t.drop (k + 1) ∧ ((⟨sk, false⟩ : Rs).aft 1).bad = false := by
        have hd : t.drop k = [t[k]] ++ t.drop (k + 1) := List.drop_eq_getElem_cons (by omega)
        have h := Rs.read_tk (r := ⟨sk, false⟩) (l := [t[k]]) (k := t.drop (k + 1)) rfl (by rw [← hd]; exact hsk)
        simp only [List.length_cons, List.length_nil, Nat.zero_add] at h
        refine ⟨?_, h.2.1, h.2.2⟩
        rw [h.1]
        simp [val]
      rw [e1, e3] at KB
      have E2 := Lib.hid e2
      have hset := part_set (t := t) hsz hlt
      have HSET := Lib.hid hset
      clear e1 e2 e3 hset hne hsk
      generalize ((⟨sk, false⟩ : Rs).aft 1).s = sn at *
      generalize (t[k].toNat : Int) = x at *
      go_wp2_with fail
      refine KB.mono ?_
      rintro e w2 ⟨rfl, R2, f2⟩
      have i2 := ir.fr f2 (by omega)
      have fr2 : Fr (fun k => k = b) w w2 := fr.trans f2 (fun _ _ h => h)
      have z2 := i2.frozen k
      have c2 : ∃ v, w2.cell? ⟨w.heap.size, k, none⟩ = some v := by
        have := i2.cell k
        rw [this]
        refine ⟨_, Array.getElem?_eq_getElem (by show k < (part t n k).length; rw [part_length hsz hk]; exact hlt)⟩
      obtain ⟨v2, c2⟩ := c2
      have i3 := i2.set k (.int .i64 x)
      rw [HSET.out] at i3
      have R3 : Re (w2.setCell ⟨w.heap.size, k, none⟩ (.int .i64 x)) b sn false := Is.far R2 (by show b ≠ w.heap.size; omega) _
      have fr3 : Fr (fun k => k = b) w (w2.setCell ⟨w.heap.size, k, none⟩ (.int .i64 x)) := fr2.setCell (.inr (Nat.le_refl _)) _
      clear i2 R2 fr2 f2 fr KB ir R HSET
      go_wp2_with fail
      go_roundw
      case rel => exact ⟨k + 1, sn, by omega, by go_num, R3, E2.out, i3, fr3⟩
      case measure => simp [intOf]; omega
    · have hk' : k = n := by omega
      subst hk'
      rw [part_all] at ir
      have hr : Rd wr (some ⟨w.heap.size, 0, none⟩) ((inL (t.take k)).map (Value.int .i64)) := fun _ => ⟨w.heap.size, 0, rfl, ir.lt, fun j u hu => by
        rw [Nat.zero_add, ir.cell j]
        simpa using hu⟩
      have hg := ir.lt
      clear ir
      go_wp2_with fail
      go_ret
      exact ⟨w.heap.size, sk, rfl, Nat.le_refl _, hg, hr, R, hsk, fr⟩
end Go.Proofs.Ytfmhfngilimhjaa.Te

namespace Go.Proofs.Ytfmhfngilimhjaa.Te
open Go.RowKit Go.Proofs.Ytfmhfngilimhjaa.Pa

/-- what a text says of parts is right -/
def goodC (t : List UInt8) : Nat → List Pt → Bool
  | _, [] => true
  | o, p :: r => okL (cutL t o p.n) p.n p.m && goodC t (o + p.n) r
def readB (kd : UInt8) (ps : List Pt) (t : List UInt8) : Bool := decide (t.length = widthP ps) && (decide (t.head? = some kd) && goodC t 1 ps)
/-- parts with their lists -/
def withX (ps : List Pt) (xs : List L3) : List Pt := List.zipWith (fun p x => { p with A := x.A, l := x.l, c := x.c }) ps xs
theorem withX_cells : ∀ (ps : List Pt) (xs : List L3), xs.length = ps.length → cellsP (withX ps xs) = cellsP ps
  | [], [], _ => rfl
  | p :: ps, x :: xs, h => by
    show [_, _, _] ++ cellsP (withX ps xs) = p.cells ++ cellsP ps
    rw [withX_cells ps xs (by simpa using h)]
    rfl
theorem withX_good (t : List UInt8) : ∀ (ps : List Pt) (xs : List L3) (o : Nat), xs.length = ps.length → (∀ j (hj : j < xs.length) (hp : j < ps.length), xs[j].l = cutL t ((ps.take j).foldl (fun s p => s + p.n) o) ps[j].n) → (withX ps xs).all Pt.good = goodC t o ps
  | [], [], _, _, _ => rfl
  | p :: ps, x :: xs, o, h, hx => by
    have ih := withX_good t ps xs (o + p.n) (by simpa using h) fun j hj hp => by
      have := hx (j + 1) (by simpa using hj) (by simpa using hp)
      simpa using this
    have h0 : x.l = cutL t o p.n := hx 0 (by simp) (by simp)
    show (okL x.l p.n p.m && (withX ps xs).all Pt.good) = (okL (cutL t o p.n) p.n p.m && goodC t (o + p.n) ps)
    rw [ih, h0]
theorem withX_get {ps : List Pt} {xs : List L3} {j : Nat} (h1 : j < ps.length) (h2 : j < xs.length) (h : j < (withX ps xs).length) : (withX ps xs)[j] = ⟨ps[j].n, ps[j].m, ps[j].b, ps[j].o, xs[j].A, xs[j].l, xs[j].c⟩ := List.getElem_zipWith
structure Got (t : List UInt8) (z : Nat) (w : World) (p : Pt) (o : Nat) (x : L3) : Prop where
  ok : x.Ok w
  l : x.l = cutL t o p.n
  new : ∀ q, blk x.A = some q → z ≤ q
theorem Got.fr {t : List UInt8} {z o : Nat} {w w1 : World} {p : Pt} {x : L3} {S : Nat → Prop} (h : Got t z w p o x) (f : Fr S w w1) (hS : ∀ q, z ≤ q → ¬ S q) : Got t z w1 p o x :=
  ⟨h.ok.fr f fun k hk => hS k (h.new k hk), h.l, h.new⟩
def Gots (t : List UInt8) (z : Nat) (w : World) (ps : List Pt) (xs : List L3) : Prop := ∀ j (hj : j < xs.length) (hp : j < ps.length), Got t z w ps[j] (widthP (ps.take j)) xs[j]
def At (cs : Array Value) (xs : List L3) : Prop := ∀ j (hj : j < xs.length), cs[j]? = some xs[j].val
theorem at_snoc {cs : Array Value} {xs : List L3} {x : L3} (h : At cs xs) (hs : xs.length < cs.size) : At (cs.setIfInBounds xs.length x.val) (xs ++ [x]) := fun j hj => by
  rw [List.length_append, List.length_singleton] at hj
  rw [Array.getElem?_setIfInBounds]
  by_cases hl : j < xs.length
  · rw [if_neg (by omega), h j hl, List.getElem_append_left hl]
  · have e : j = xs.length := by omega
    subst e
    rw [if_pos rfl, if_pos hs]
    simp
theorem gots_snoc {t : List UInt8} {z : Nat} {w : World} {ps : List Pt} {xs : List L3} {x : L3} (h : Gots t z w ps xs) (hl : xs.length < ps.length) (hx : Got t z w ps[xs.length] (widthP (ps.take xs.length)) x) : Gots t z w ps (xs ++ [x]) := fun j hj hp => by
  rw [List.length_append, List.length_singleton] at hj
  by_cases hlt : j < xs.length
  · rw [List.getElem_append_left hlt]
    exact h j hlt hp
  · have e : j = xs.length := by omega
    subst e
    simpa using hx
theorem widthP_succ {ps : List Pt} {k : Nat} (h : k < ps.length) : widthP (ps.take (k + 1)) = widthP (ps.take k) + ps[k].n := by rw [List.take_succ_eq_append_getElem h, widthP_snoc]
theorem widthP_mono (ps : List Pt) : ∀ (d k : Nat), k + d ≤ ps.length → widthP (ps.take k) ≤ widthP (ps.take (k + d))
  | 0, _, _ => Nat.le_refl _
  | d + 1, k, h => Nat.le_trans (widthP_mono ps d k (by omega)) (by rw [show k + (d + 1) = (k + d) + 1 by omega, widthP_succ (by omega)]; omega)
theorem widthP_le {ps : List Pt} {k : Nat} (h : k < ps.length) : widthP (ps.take k) + ps[k].n ≤ widthP ps := by
  have := widthP_mono ps (ps.length - (k + 1)) (k + 1) (by omega)
  rw [show k + 1 + (ps.length - (k + 1)) = ps.length by omega, List.take_length, widthP_succ h] at this
  exact this
theorem widthP_pos (ps : List Pt) : 1 ≤ widthP ps := by
  have := widthP_mono ps ps.length 0 (by omega)
  rw [Nat.zero_add, List.take_length] at this
  exact this

set_option maxHeartbeats 2000000 in
theorem read_any {A : Option Addr} {c b : Nat} {tt : TypeId} {cs : Array Value} {ps : List Pt} (w : World) (s : ByteArray) (kd : Nat) (hk : kd ≤ 255) (h : Rd w A (cellsP ps)) (hps : ∀ j (hj : j < ps.length), ps[j].b = b ∧ ps[j].o = j)
    (hn : ∀ p ∈ ps, p.n ≤ 17592186044416) (hal : ps.length ≤ 4) (hb : Is w b tt cs) (hcs : cs.size = ps.length) (hA : blk A ≠ some b) :
    Calls Try.prog 94 #[.string s, .int .i64 (kd : Int), .slice A ps.length c] w fun e w' => e = .returned (.bool (readB (UInt8.ofNat kd) ps (bytesOf s))) ∧ Fr (fun k => k = b) w w' ∧ ∃ (cs' : Array Value) (xs : List L3), cs'.size = ps.length ∧ Is w' b tt cs' ∧
      (readB (UInt8.ofNat kd) ps (bytesOf s) = true → xs.length = ps.length ∧ At cs' xs ∧ Gots (bytesOf s) w.heap.size w' ps xs) := by
  have KW := width_any (c := c) w h hn hal
  have hw := widthP_take ps hn ps.length (Nat.le_refl _)
  rw [List.take_length] at hw
  have hW : widthP ps ≤ 70368744177665 := by omega
  have hsz := bytesOf_length s
  by_cases h1 : (bytesOf s).length = widthP ps
  · have hpos := widthP_pos ps
    have e1 : ((s.size : Int) != (widthP ps : Int)) = false := by
      simp
      omega
    have hne : bytesOf s ≠ [] := fun e => by
      rw [e] at h1
      simp at h1
      omega
    obtain ⟨q0, t0, hq⟩ : ∃ q0 t0, bytesOf s = q0 :: t0 := by
      cases hb : bytesOf s with
      | nil => exact absurd hb hne
      | cons q0 t0 => exact ⟨q0, t0, rfl⟩
    obtain ⟨v1, v2, v3⟩ : val (bytesOf ((⟨s, false⟩ : Rs).tk 1)) = (q0.toNat : Int) ∧ bytesOf ((⟨s, false⟩ : Rs).aft 1).s = t0 ∧ ((⟨s, false⟩ : Rs).aft 1).bad = false := by
      have h := Rs.read_tk (r := ⟨s, false⟩) (l := [q0]) (k := t0) rfl (by rw [hq]; rfl)
      simp only [List.length_cons, List.length_nil, Nat.zero_add] at h
      refine ⟨?_, h.2.1, h.2.2⟩
      rw [h.1]
      simp [val]
    have KB := fun (W : World) (rb : Nat) (R : Re W rb s false) => rbyte_any (r := ⟨s, false⟩) R
    rw [v1, v3] at KB
    generalize ((⟨s, false⟩ : Rs).aft 1).s = s1 at *
    have hbl := hb.lt
    have HPS := Lib.hid hps
    have HB := Lib.hid hb
    have HC := Lib.hid hcs
    have HQ := Lib.hid hq
    have HH := Lib.hid h
    have H1 := Lib.hid h1
    have HW := Lib.hid hW
    have V2 := Lib.hid v2
    have HN := Lib.hid hn
    have hR : readB (UInt8.ofNat kd) ps (bytesOf s) = (decide (q0 = UInt8.ofNat kd) && goodC (bytesOf s) 1 ps) := by
      unfold readB
      rw [show decide ((bytesOf s).length = widthP ps) = true by simpa using h1, Bool.true_and, hq]
      congr 1
      simp
    have HR := Lib.hid hR
    clear hR hps hb hcs hq h h1 hw hW hn v1 v2 v3 hne hpos hsz
    generalize readB (UInt8.ofNat kd) ps (bytesOf s) = RB at *
    generalize hWP : widthP ps = WP at *
    have HWP := Lib.hid hWP
    clear hWP
    generalize hTT : bytesOf s = T at *
    clear hTT
    have hkd : q0 = UInt8.ofNat kd ↔ (q0.toNat : Int) = (kd : Int) := by
      constructor
      · intro e
        rw [e, UInt8.toNat_ofNat']
        omega
      · intro e
        apply UInt8.toNat_inj.1
        rw [UInt8.toNat_ofNat']
        omega
    by_cases hkk : q0 = UInt8.ofNat kd
    · have e2 : ((q0.toNat : Int) != (kd : Int)) = false := by simpa using hkd.1 hkk
      rw [show decide (q0 = UInt8.ofNat kd) = true by simpa using hkk, Bool.true_and] at HR
      clear hkd hkk
      generalize (q0.toNat : Int) = kk at *
      go_enter Try.func94, Try.ntmps94
      go_wp2_with fail
      refine KW.mono ?_
      rintro e w1 ⟨rfl, f1⟩
      go_wp2_with fail
      refine (Pa.read_any s w1).mono ?_
      rintro e w2 ⟨rfl, hw2⟩
      have R2 : Re w2 w1.heap.size s false := by rw [hw2]; exact Is.new _ _ _
      have f2 : Fr (fun _ => False) w w2 := by rw [hw2]; exact f1.alloc _
      have hrb : w.heap.size ≤ w1.heap.size := f1.size
      clear hw2 f1 KW
      generalize w1.heap.size = rb at *
      go_wp2_with fail
      refine (KB w2 rb R2).mono ?_
      rintro e w3 ⟨rfl, R3, f3⟩
      have g3 : Fr (fun _ => False) w w3 := f2.trans f3 (fun j hj e => by omega)
      clear R2 f2 f3 KB
      go_wp2_with fail
      have HG3 := Lib.hid g3
      have HR3 := Lib.hid R3
      clear g3 R3
      go_loopw [23] (fun i wr => ∃ (k : Nat) (sk : ByteArray) (cs' : Array Value) (xs : List L3), k ≤ ps.length ∧ i = .int .i64 (k : Nat) ∧ Re wr rb sk false ∧ bytesOf sk = T.drop (widthP (ps.take k)) ∧ cs'.size = ps.length ∧ Is wr b tt cs' ∧ xs.length = k ∧ At cs' xs ∧ Gots T (rb + 1) wr ps xs ∧ Fr (fun k => k = b) w wr) (fun i _ => ps.length - (intOf i).toNat)
      case atStart =>
        refine ⟨0, s1, cs, [], Nat.zero_le _, rfl, HR3.out, ?_, HC.out, HB.out.fr HG3.out id, rfl, fun j hj => by simp at hj, fun j hj => by simp at hj, HG3.out.mono fun _ _ h => h.elim⟩
        rw [V2.out, HQ.out]
        rfl
      case round =>
        clear HG3 HR3 V2
        obtain ⟨k, sk, cs', xs, hk', rfl, R, hsk, hcs, ib, hxl, hat, hgs, fr⟩ := hrel
        by_cases hlt : k < ps.length
        · obtain ⟨g, o, rfl, hg, q0', q1, q2⟩ := rd_pt (HH.out.fr fr (fun j hj e => hA (by rw [hj, e]))) hlt
          obtain ⟨hpb, hpo⟩ := HPS.out k hlt
          rw [hpb, hpo] at q2
          have hle := widthP_le hlt
          rw [HWP.out] at hle
          have hnk := HN.out _ (List.getElem_mem hlt)
          have hskl := congrArg List.length hsk
          rw [List.length_drop, H1.out, bytesOf_length] at hskl
          have hnx : ps[k].n ≤ sk.size := by omega
          have hcut : inL ((bytesOf sk).take ps[k].n) = cutL T (widthP (ps.take k)) ps[k].n := by rw [hsk]; rfl
          have hnext : (bytesOf sk).drop ps[k].n = T.drop (widthP (ps.take (k + 1))) := by rw [hsk, List.drop_drop, widthP_succ hlt]
          have KN := fun (W : World) (R : Re W rb sk false) => next_any R hnx hnk
          have HGS := Lib.hid hgs
          have HAT := Lib.hid hat
          have HXL := Lib.hid hxl
          have HCS := Lib.hid hcs
          have HCUT := Lib.hid hcut
          have HNEXT := Lib.hid hnext
          have hgotk : ∀ (W : World) (x : L3), Got T (rb + 1) W ps[k] (widthP (ps.take k)) x → Gots T (rb + 1) W ps xs → Gots T (rb + 1) W ps (xs ++ [x]) := fun W x hx hG => by
            subst hxl
            exact gots_snoc hG hlt hx
          have HGOT := Lib.hid hgotk
          have hlb : (ps[k].n : Int) ≤ 17592186044416 := by omega
          have HNK := Lib.hid hnk
          have HNX := Lib.hid hnx
          clear hgs hat hxl hcs hcut hnext hle hnk hskl hnx hgotk hpb hpo
          generalize ps[k].m = m at *
          generalize hpn : ps[k].n = n at *
          have HPN := Lib.hid hpn
          clear hpn
          have ip : Is (wr.alloc (.cells #[.int .i64 (n : Int), .int .i64 m, .pointer (some ⟨b, k, none⟩)] 162)) wr.heap.size 162 #[.int .i64 (n : Int), .int .i64 m, .pointer (some ⟨b, k, none⟩)] := Is.new _ _ _
          have R1 : Re (wr.alloc (.cells #[.int .i64 (n : Int), .int .i64 m, .pointer (some ⟨b, k, none⟩)] 162)) rb sk false := Is.alloc R _
          have fa : Fr (fun _ => False) wr (wr.alloc (.cells #[.int .i64 (n : Int), .int .i64 m, .pointer (some ⟨b, k, none⟩)] 162)) := (Fr.refl _ _).alloc _
          have hbw : b < wr.heap.size := ib.lt
          have hrbw : rb < wr.heap.size := R.lt
          have HBW := Lib.hid hbw
          have HRBW := Lib.hid hrbw
          have HIB := Lib.hid ib
          have HR1 := Lib.hid R1
          have HFA := Lib.hid fa
          have HFR := Lib.hid fr
          have HIP := Lib.hid ip
          have HSK := Lib.hid hsk
          clear hbw hrbw ib R R1 fa fr hsk ip
          go_wp2_with fail
          generalize wr.alloc (.cells #[.int .i64 (n : Int), .int .i64 m, .pointer (some ⟨b, k, none⟩)] 162) = w4 at *
          generalize hpb : wr.heap.size = pb at *
          have HPBE := Lib.hid hpb
          clear hpb
          have s5 : w4.drew.cell? ⟨pb, 0, none⟩ = some (.int .i64 (n : Int)) ∧ w4.drew.cell? ⟨pb, 2, none⟩ = some (.pointer (some ⟨b, k, none⟩)) := ⟨(HIP.out.cell 0).trans rfl, (HIP.out.cell 2).trans rfl⟩
          have hpne : Hid (pb ≠ b) := Lib.hid (by have := HBW.out; omega)
          have HR5 := Lib.hid (show Re w4.drew rb sk false from HR1.out)
          go_region_held3 (fun Wx => Wx.cell? ⟨pb, 0, none⟩ = some (.int .i64 (n : Int)) ∧ Wx.cell? ⟨pb, 2, none⟩ = some (.pointer (some ⟨b, k, none⟩))) (first | exact s5 | exact s6 | exact ⟨((I6.out.far hpne.out _).cell 0).trans rfl, ((I6.out.far hpne.out _).cell 2).trans rfl⟩) (first | (go_at_call 110; refine (KN _ HR5.out).mono ?_; rintro e w6 ⟨gn, sn, rfl, hgn, hgl, rn, Rn, en, fn⟩; have I6 := Lib.hid (HIP.out.drew.fr fn (by have := HRBW.out; omega)); have s6 : w6.cell? ⟨pb, 0, none⟩ = some (.int .i64 (n : Int)) ∧ w6.cell? ⟨pb, 2, none⟩ = some (.pointer (some ⟨b, k, none⟩)) := ⟨(I6.out.cell 0).trans rfl, (I6.out.cell 2).trans rfl⟩; have J6 := (HIB.out.fr HFA.out id).drew.fr fn (by omega); have z6 := J6.frozen k; obtain ⟨v6, c6⟩ : ∃ v, w6.cell? ⟨b, k, none⟩ = some v := ⟨_, (J6.cell k).trans (Array.getElem?_eq_getElem (by have := HCS.out; omega))⟩; have HRN := Lib.hid rn; have HJ6 := Lib.hid J6; have HRE := Lib.hid Rn; have HEN := Lib.hid en; have HFN := Lib.hid fn; have HGN := Lib.hid hgn; have HGL := Lib.hid hgl; clear rn J6 Rn en fn hgn hgl))
          have hxlen : (inL ((bytesOf sk).take n)).length = n := by
            have := HNX.out
            rw [inL_length, List.length_take, bytesOf_length]
            omega
          have hval : (L3.mk (some ⟨gn, 0, none⟩) (inL ((bytesOf sk).take n)) n).val = .slice (some ⟨gn, 0, none⟩) n n := by
            show Value.slice _ (inL ((bytesOf sk).take n)).length n = _
            rw [hxlen]
          have J7 := HJ6.out.set k (.slice (some ⟨gn, 0, none⟩) n n)
          have hrbgn : rb < gn := by
            have h1 := HRBW.out
            have h2 := HFA.out.size
            have h3 : w4.heap.size ≤ gn := HGN.out
            have h4 := HPBE.out
            omega
          have hbrb : b ≠ rb := by omega
          have f67 : Fr (fun k => k = b) w6 (w6.setCell ⟨b, k, none⟩ (.slice (some ⟨gn, 0, none⟩) n n)) := (Fr.refl (fun k => k = b) w6).setCell (p := ⟨b, k, none⟩) (.inl rfl) _
          have fall : Fr (fun j => j = rb ∨ j = b) wr (w6.setCell ⟨b, k, none⟩ (.slice (some ⟨gn, 0, none⟩) n n)) :=
            ((HFA.out.drew.mono fun _ _ h => h.elim).trans HFN.out (fun _ _ h => .inl h)).trans f67 (fun _ _ h => .inr h)
          have gx : Got T (rb + 1) (w6.setCell ⟨b, k, none⟩ (.slice (some ⟨gn, 0, none⟩) n n)) ps[k] (widthP (ps.take k)) ⟨some ⟨gn, 0, none⟩, inL ((bytesOf sk).take n), n⟩ := by
            refine ⟨⟨HRN.out.fr f67 fun q hq e => ?_, by show (inL _).length ≤ _; rw [hxlen]; exact HNK.out, fun _ q hq => ?_⟩, ?_, fun q hq => ?_⟩
            · have hq' : gn = q := by injection hq
              omega
            · have hq' : gn = q := by injection hq
              have := HGL.out
              have := f67.size
              omega
            · rw [HPN.out]; exact HCUT.out
            · have hq' : gn = q := by injection hq
              omega
          have gs := HGOT.out _ _ gx (fun j hj hp => (HGS.out j hj hp).fr fall fun q hq e => by rcases e with e | e <;> omega)
          have hat7 := at_snoc (x := L3.mk (some ⟨gn, 0, none⟩) (inL ((bytesOf sk).take n)) n) HAT.out (by have := HXL.out; have := HCS.out; omega)
          rw [hval, HXL.out] at hat7
          have R7 : Re (w6.setCell ⟨b, k, none⟩ (.slice (some ⟨gn, 0, none⟩) n n)) rb sn false := Is.far HRE.out (by show rb ≠ b; omega) _
          have fr7 : Fr (fun k => k = b) w (w6.setCell ⟨b, k, none⟩ (.slice (some ⟨gn, 0, none⟩) n n)) :=
            HFR.out.trans fall (fun j hj e => by rcases e with e | e <;> omega)
          have he7 : bytesOf sn = T.drop (widthP (ps.take (k + 1))) := by rw [HEN.out, HNEXT.out]
          have hl7 : (xs ++ [L3.mk (some ⟨gn, 0, none⟩) (inL ((bytesOf sk).take n)) n]).length = k + 1 := by rw [List.length_append, HXL.out]; rfl
          have hc7 : (cs'.setIfInBounds k (.slice (some ⟨gn, 0, none⟩) n n)).size = ps.length := by rw [Array.size_setIfInBounds]; exact HCS.out
          have hrel7 := And.intro R7 (And.intro he7 (And.intro hc7 (And.intro J7 (And.intro hl7 (And.intro hat7 (And.intro gs fr7))))))
          clear R7 he7 hc7 J7 hl7 hat7 gs fr7 gx fall f67 hval hxlen
          generalize xs ++ [L3.mk (some ⟨gn, 0, none⟩) (inL ((bytesOf sk).take n)) n] = xs7 at *
          generalize cs'.setIfInBounds k (.slice (some ⟨gn, 0, none⟩) n n) = cs7 at *
          generalize w6.setCell ⟨b, k, none⟩ (.slice (some ⟨gn, 0, none⟩) n n) = w7 at *
          have HREL := Lib.hid hrel7
          clear hrel7
          go_wp2_with fail
          go_roundw
          case rel => exact ⟨k + 1, sn, cs7, xs7, by omega, by go_num, HREL.out⟩
          case measure => simp [intOf]; omega
        · have hkl : k = ps.length := by omega
          have hx2 : xs.length = ps.length := by omega
          have hwx : (withX ps xs).length = ps.length := by unfold withX; rw [List.length_zipWith]; omega
          have P : Prs wr A (withX ps xs) := by
            refine ⟨by rw [withX_cells ps xs hx2]; exact HH.out.fr fr (fun j hj e => hA (by rw [hj, e])), fun p hp => ?_⟩
            obtain ⟨j, hj, rfl⟩ := List.mem_iff_getElem.1 hp
            have hj1 : j < ps.length := by omega
            have hj2 : j < xs.length := by omega
            rw [withX_get hj1 hj2 hj]
            obtain ⟨hpb, hpo⟩ := HPS.out j hj1
            have G := hgs j hj2 hj1
            exact ⟨by show wr.cell? ⟨ps[j].b, ps[j].o, none⟩ = _; rw [hpb, hpo, ib.cell j]; exact hat j hj2, G.ok.rd, G.ok.le, (show ps[j].n ≤ _ from HN.out ps[j] (List.getElem_mem hj1)), G.ok.lt⟩
          have KC := containsr_any (c := c) wr P (by omega)
          rw [hwx] at KC
          rw [withX_good T ps xs 1 hx2 (fun j hj hp => (hgs j hj hp).l), ← HR.out] at KC
          have hgz : Gots T w.heap.size wr ps xs := fun j hj hp => ⟨(hgs j hj hp).ok, (hgs j hj hp).l, fun q hq => by have := (hgs j hj hp).new q hq; omega⟩
          have HGZ := Lib.hid hgz
          have HAT := Lib.hid hat
          have HIB := Lib.hid ib
          clear hgs hat ib hgz P hkl hwx hsk
          go_wp2_with fail
          refine KC.mono ?_
          rintro e w8 ⟨rfl, f8⟩
          go_wp2_with fail
          go_ret
          refine ⟨by rw [← Bool.not_not RB]; rfl, fr.trans f8 fun _ _ h => h.elim, cs', xs, hcs, HIB.out.fr f8 id, fun _ => ⟨hx2, HAT.out, fun j hj hp => (HGZ.out j hj hp).fr f8 fun _ _ h => h⟩⟩
    · have e2 : ((q0.toNat : Int) != (kd : Int)) = true := by
        have : ¬ (q0.toNat : Int) = (kd : Int) := fun e => hkk (hkd.2 e)
        simpa using this
      rw [show decide (q0 = UInt8.ofNat kd) = false by simpa using hkk, Bool.false_and] at HR
      clear hkd hkk
      generalize (q0.toNat : Int) = kk at *
      go_enter Try.func94, Try.ntmps94
      go_wp2_with fail
      refine KW.mono ?_
      rintro e w1 ⟨rfl, f1⟩
      go_wp2_with fail
      refine (Pa.read_any s w1).mono ?_
      rintro e w2 ⟨rfl, hw2⟩
      have R2 : Re w2 w1.heap.size s false := by rw [hw2]; exact Is.new _ _ _
      have f2 : Fr (fun _ => False) w w2 := by rw [hw2]; exact f1.alloc _
      have hrb : w.heap.size ≤ w1.heap.size := f1.size
      clear hw2 f1 KW
      generalize w1.heap.size = rb at *
      go_wp2_with fail
      refine (KB w2 rb R2).mono ?_
      rintro e w3 ⟨rfl, R3, f3⟩
      have g3 : Fr (fun _ => False) w w3 := f2.trans f3 (fun j hj e => by omega)
      clear R2 f2 f3 KB
      go_wp2_with fail
      go_ret
      rw [HR.out]
      exact ⟨rfl, g3.mono fun _ _ h => h.elim, cs, [], HC.out, HB.out.fr g3 id, fun h => by cases h⟩
  · have hR : readB (UInt8.ofNat kd) ps (bytesOf s) = false := by unfold readB; rw [show decide ((bytesOf s).length = widthP ps) = false by simpa using h1]; rfl
    have e1 : ((s.size : Int) != (widthP ps : Int)) = true := by
      simp
      omega
    rw [hR]
    have HB := Lib.hid hb
    have HC := Lib.hid hcs
    clear hR h1 hw hW h hb
    generalize widthP ps = W at *
    go_enter Try.func94, Try.ntmps94
    go_wp2_with fail
    refine KW.mono ?_
    rintro e w1 ⟨rfl, f1⟩
    go_wp2_with fail
    go_ret
    exact ⟨rfl, f1.mono fun _ _ h => h.elim, cs, [], HC.out, HB.out.fr f1 id, fun h => by cases h⟩
end Go.Proofs.Ytfmhfngilimhjaa.Te

namespace Go.Proofs.Ytfmhfngilimhjaa.Te

theorem byL_cutL (t : List UInt8) (a n : Nat) : byL (cutL t a n) = (t.drop a).take n := byL_inL _
theorem step_drop (t : List UInt8) (a n : Nat) : (t.drop a).take n ++ t.drop (a + n) = t.drop a := by
  have := List.take_append_drop n (t.drop a)
  rwa [List.drop_drop] at this
theorem last_take (t : List UInt8) (a n : Nat) (h : t.length = a + n) : (t.drop a).take n = t.drop a := List.take_of_length_le (by rw [List.length_drop]; omega)
theorem head_cons {t : List UInt8} {k : UInt8} (h : t.head? = some k) : t = k :: t.drop 1 := by
  cases t with
  | nil => cases h
  | cons x r =>
    simp at h
    subst h
    rfl
def nilSta : Sta := ⟨⟨none, [], 0⟩, ⟨none, [], 0⟩, ⟨none, [], 0⟩, ⟨none, [], 0⟩⟩
def nilOds : Ods := ⟨⟨none, [], 0⟩, ⟨none, [], 0⟩, ⟨none, [], 0⟩⟩
theorem readB_st (h : Hs) (b : Nat) (x : Sta) (t : List UInt8) : readB 1 (stPs h b x) t = true ↔ t.length = 1 + h.s + h.p + h.c + h.g ∧ t.head? = some 1 ∧ (St.cut h t).ok h = true := by
  have e : goodC t 1 (stPs h b x) = (St.cut h t).ok h := by
    show (okL _ _ _ && (okL _ _ _ && (okL _ _ _ && (okL _ _ _ && true)))) = _
    rw [Bool.and_true]
    rfl
  have w : widthP (stPs h b x) = 1 + h.s + h.p + h.c + h.g := rfl
  unfold readB
  rw [e, w]
  simp only [Bool.and_eq_true, decide_eq_true_eq]
theorem readB_or (h : Hs) (b : Nat) (x : Ods) (t : List UInt8) : readB 2 (orPs h b x) t = true ↔ t.length = 1 + h.p + h.g + h.c ∧ t.head? = some 2 ∧ (Or.cut h t).ok h = true := by
  have e : goodC t 1 (orPs h b x) = (Or.cut h t).ok h := by
    show (okL _ _ _ && (okL _ _ _ && (okL _ _ _ && true))) = _
    rw [Bool.and_true]
    rfl
  have w : widthP (orPs h b x) = 1 + h.p + h.g + h.c := rfl
  unfold readB
  rw [e, w]
  simp only [Bool.and_eq_true, decide_eq_true_eq]
theorem cut_bytes_st {h : Hs} {t : List UInt8} (hl : t.length = 1 + h.s + h.p + h.c + h.g) (hh : t.head? = some 1) : (St.cut h t).bytes = t := by
  unfold St.bytes St.cut
  simp only
  rw [byL_cutL, byL_cutL, byL_cutL, byL_cutL, last_take _ _ _ hl, step_drop, step_drop, step_drop]
  exact (head_cons hh).symm
theorem cut_bytes_or {h : Hs} {t : List UInt8} (hl : t.length = 1 + h.p + h.g + h.c) (hh : t.head? = some 2) : (Or.cut h t).bytes = t := by
  unfold Or.bytes Or.cut
  simp only
  rw [byL_cutL, byL_cutL, byL_cutL, last_take _ _ _ hl, step_drop, step_drop]
  exact (head_cons hh).symm
theorem rst_read (h : Hs) (b : Nat) (x : Sta) (t : List UInt8) : rstL h t = if readB 1 (stPs h b x) t = true then (St.cut h t, 0) else (St.nil, 3) := by
  unfold rstL
  by_cases hB : readB 1 (stPs h b x) t = true
  · obtain ⟨h1, h2, h3⟩ := (readB_st h b x t).1 hB
    rw [if_pos hB, if_pos]
    unfold stL
    rw [if_pos h3, cut_bytes_st h1 h2]
  · rw [if_neg hB, if_neg]
    intro e
    apply hB
    obtain ⟨h1, h2⟩ := st_ok e
    have hr : (rstL h t).2 = 0 := by unfold rstL; rw [if_pos e]
    obtain ⟨h3, h4⟩ := rst_head hr
    exact (readB_st h b x t).2 ⟨h4, h3, h1⟩
theorem ror_read (h : Hs) (b : Nat) (x : Ods) (t : List UInt8) : rorL h t = if readB 2 (orPs h b x) t = true then (Or.cut h t, 0) else (Or.nil, 3) := by
  unfold rorL
  by_cases hB : readB 2 (orPs h b x) t = true
  · obtain ⟨h1, h2, h3⟩ := (readB_or h b x t).1 hB
    rw [if_pos hB, if_pos]
    unfold orL
    rw [if_pos h3, cut_bytes_or h1 h2]
  · rw [if_neg hB, if_neg]
    intro e
    apply hB
    obtain ⟨h1, h2⟩ := or_ok e
    have hr : (rorL h t).2 = 0 := by unfold rorL; rw [if_pos e]
    obtain ⟨h3, h4⟩ := ror_head hr
    exact (readB_or h b x t).2 ⟨h4, h3, h1⟩
end Go.Proofs.Ytfmhfngilimhjaa.Te

namespace Go.Proofs.Ytfmhfngilimhjaa.Te
open Go.RowKit Go.Proofs.Ytfmhfngilimhjaa.Pa

theorem nil_ok (w : World) : (L3.mk none [] 0).Ok w := ⟨fun h => by simp at h, by simp, fun _ k hk => by cases hk⟩
theorem nilSta_ok (w : World) : nilSta.Ok w := ⟨nil_ok w, nil_ok w, nil_ok w, nil_ok w⟩
theorem nilOds_ok (w : World) : nilOds.Ok w := ⟨nil_ok w, nil_ok w, nil_ok w⟩

theorem gots_st {T : List UInt8} {z b : Nat} {w : World} {h : Hs} {x0 x1 x2 x3 : L3} (hgs : Gots T z w (stPs h b nilSta) [x0, x1, x2, x3]) :
    (x0.Ok w ∧ x0.l = cutL T 1 h.s ∧ ∀ q, blk x0.A = some q → z ≤ q) ∧ (x1.Ok w ∧ x1.l = cutL T (1 + h.s) h.p ∧ ∀ q, blk x1.A = some q → z ≤ q) ∧ (x2.Ok w ∧ x2.l = cutL T (1 + h.s + h.p) h.c ∧ ∀ q, blk x2.A = some q → z ≤ q) ∧ x3.Ok w ∧ x3.l = cutL T (1 + h.s + h.p + h.c) h.g ∧ ∀ q, blk x3.A = some q → z ≤ q := by
  have G0 := hgs 0 (by simp) (by simp [stPs])
  have G1 := hgs 1 (by simp) (by simp [stPs])
  have G2 := hgs 2 (by simp) (by simp [stPs])
  have G3 := hgs 3 (by simp) (by simp [stPs])
  exact ⟨⟨G0.ok, G0.l, G0.new⟩, ⟨G1.ok, G1.l, G1.new⟩, ⟨G2.ok, G2.l, G2.new⟩, G3.ok, G3.l, G3.new⟩
def Sta.New (x : Sta) (z : Nat) : Prop := (∀ q, blk x.occ.A = some q → z ≤ q) ∧ (∀ q, blk x.pos.A = some q → z ≤ q) ∧ (∀ q, blk x.shut.A = some q → z ≤ q) ∧ ∀ q, blk x.lamp.A = some q → z ≤ q
theorem nilSta_new (z : Nat) : nilSta.New z := ⟨fun q h => (by cases h), fun q h => (by cases h), fun q h => (by cases h), fun q h => (by cases h)⟩
set_option maxHeartbeats 1000000 in
theorem rstatus_new {h : Sh} (hh : h.Ok) (s : ByteArray) (w : World) :
    Calls Try.prog 72 #[h.val, .string s] w fun e w' => ∃ x : Sta, e = .returned (.tuple #[x.val, .int .i64 (rstL h.hs (bytesOf s)).2]) ∧ x.st = (rstL h.hs (bytesOf s)).1 ∧ x.Ok w' ∧ x.New w.heap.size ∧ Fr (fun _ => False) w w' := by
  have KS := fun b W => sparts_any h b W
  have KR := fun (W : World) (g b : Nat) (hr : Rd W (some ⟨g, 0, none⟩) (cellsP (stPs h.hs b nilSta))) (cs : Array Value) (hb : Is W b 65 cs) (hcs : cs.size = 4) (hne : g ≠ b) =>
    read_any (c := 4) (tt := 65) W s 1 (by decide) hr (ps := stPs h.hs b nilSta) (b := b) (fun j hj => by
      have hj4 : j < 4 := hj
      match j, hj4 with
      | 0, _ => exact ⟨rfl, rfl⟩
      | 1, _ => exact ⟨rfl, rfl⟩
      | 2, _ => exact ⟨rfl, rfl⟩
      | 3, _ => exact ⟨rfl, rfl⟩) (fun p hp => by
      simp only [stPs, List.mem_cons, List.not_mem_nil, or_false] at hp
      rcases hp with rfl | rfl | rfl | rfl
      · exact hh.s
      · exact hh.p
      · exact hh.c
      · exact hh.g) (by simp [stPs]) hb hcs (by intro e; apply hne; injection e)
  rw [show UInt8.ofNat 1 = 1 from rfl] at KR
  have HRR := Lib.hid (fun b => rst_read h.hs b nilSta (bytesOf s))
  generalize rstL h.hs (bytesOf s) = RR at *
  generalize bytesOf s = T at *
  clear hh
  have fa := (Fr.refl (fun _ => False) w).alloc (.cells h.cells.toArray 33)
  have fb := fa.alloc (.cells #[.slice none 0 0, .slice none 0 0, .slice none 0 0, .slice none 0 0] 65)
  have fc := fb.alloc (.cells #[.slice none 0 0, .slice none 0 0, .slice none 0 0, .slice none 0 0] 65)
  have i1 := (Is.new (w.alloc (.cells h.cells.toArray 33)) 65 #[.slice none 0 0, .slice none 0 0, .slice none 0 0, .slice none 0 0]).alloc (.cells #[.slice none 0 0, .slice none 0 0, .slice none 0 0, .slice none 0 0] 65)
  have i2 := Is.new ((w.alloc (.cells h.cells.toArray 33)).alloc (.cells #[.slice none 0 0, .slice none 0 0, .slice none 0 0, .slice none 0 0] 65)) 65 #[.slice none 0 0, .slice none 0 0, .slice none 0 0, .slice none 0 0]
  simp only [World.size_alloc] at i1 i2
  have HFC := Lib.hid fc
  have I1 := Lib.hid i1
  have I2 := Lib.hid i2
  clear fa fb fc i1 i2
  unfold Sh.cells at *
  unfold Sh.val at *
  go_enter Try.func72, Try.ntmps72
  go_wp2_with fail
  generalize ((w.alloc (.cells #[.slice h.s.A h.s.n h.s.c, .slice h.p.A h.p.n h.p.c, .slice h.c.A h.c.n h.c.c, .slice h.g.A h.g.n h.g.c] 33)).alloc (.cells #[.slice none 0 0, .slice none 0 0, .slice none 0 0, .slice none 0 0] 65)).alloc (.cells #[.slice none 0 0, .slice none 0 0, .slice none 0 0, .slice none 0 0] 65) = w3 at *
  refine (KS _ _).mono ?_
  rintro e w4 ⟨g, rfl, f4, hg3, r4⟩
  have hg4 : w.heap.size + 2 ≠ g := by
    have := I2.out.lt
    omega
  have KR4 := KR w4 g (w.heap.size + 2) r4 _ (I2.out.fr f4 id) rfl (fun e => hg4 e.symm)
  have HI1 := Lib.hid (I1.out.fr f4 id)
  have hf4 := fr_nil HFC.out f4
  have HF4 := Lib.hid hf4
  have hsz4 : w.heap.size + 2 < w4.heap.size := (I2.out.fr f4 id).lt
  have HRR4 := Lib.hid (HRR.out (w.heap.size + 2))
  clear KS KR r4 hf4 f4 I1 I2 HFC HRR hg3 hg4
  simp only [show ((1 : Nat) : Int) = 1 from rfl] at KR4
  generalize readB 1 (stPs h.hs (w.heap.size + 2) nilSta) T = RB at *
  go_wp2_with fail
  refine KR4.mono ?_
  rintro e w5 ⟨rfl, f5, cs', xs, hcs, i5, hx⟩
  have j5 := HI1.out.fr f5 (by omega)
  have g5 : Fr (fun _ => False) w w5 := HF4.out.trans f5 (fun j hj e => by omega)
  have z0 := j5.frozen 0
  have z1 := j5.frozen 1
  have z2 := j5.frozen 2
  have z3 := j5.frozen 3
  have n0 := four_cells j5
  clear KR4 HI1 f5
  cases RB with
  | false =>
    have hR : RR = (St.nil, 3) := HRR4.out
    have HR := Lib.hid hR
    clear hR hx i5 HRR4
    go_wp2_with fail
    have i7 := (((j5.set 0 (.slice none 0 0)).set 1 (.slice none 0 0)).set 2 (.slice none 0 0)).set 3 (.slice none 0 0)
    have f7 := (((g5.setCell (p := ⟨w.heap.size + 1, 0, none⟩) (.inr (Nat.le_succ _)) (.slice none 0 0)).setCell (p := ⟨w.heap.size + 1, 1, none⟩) (.inr (Nat.le_succ _)) (.slice none 0 0)).setCell (p := ⟨w.heap.size + 1, 2, none⟩) (.inr (Nat.le_succ _)) (.slice none 0 0)).setCell (p := ⟨w.heap.size + 1, 3, none⟩) (.inr (Nat.le_succ _)) (.slice none 0 0)
    clear n0 z0 z1 z2 z3 j5 g5
    generalize (((w5.setCell ⟨w.heap.size + 1, 0, none⟩ (.slice none 0 0)).setCell ⟨w.heap.size + 1, 1, none⟩ (.slice none 0 0)).setCell ⟨w.heap.size + 1, 2, none⟩ (.slice none 0 0)).setCell ⟨w.heap.size + 1, 3, none⟩ (.slice none 0 0) = W at *
    obtain ⟨m0, m1, m2, m3⟩ := four_cells i7
    refine bodyPost_ret (v := .tuple #[.agg #[.slice none 0 0, .slice none 0 0, .slice none 0 0, .slice none 0 0], .int .i64 3]) (by simp [results, Try.results72, go_sem, m0, m1, m2, m3]) rfl ⟨nilSta, ?_, ?_, nilSta_ok _, nilSta_new _, f7⟩
    · rw [HR.out]; rfl
    · rw [HR.out]; rfl
  | true =>
    obtain ⟨hxl, hat, hgs⟩ := hx rfl
    have hR : RR = (St.cut h.hs T, 0) := HRR4.out
    have HR := Lib.hid hR
    match xs, hxl with
    | [⟨A0, l0, c0⟩, ⟨A1, l1, c1⟩, ⟨A2, l2, c2⟩, ⟨A3, l3, c3⟩], _ =>
    have k0 : w5.cell? ⟨w.heap.size + 2, 0, none⟩ = some (.slice A0 l0.length c0) := (i5.cell 0).trans (hat 0 (by simp))
    have k1 : w5.cell? ⟨w.heap.size + 2, 1, none⟩ = some (.slice A1 l1.length c1) := (i5.cell 1).trans (hat 1 (by simp))
    have k2 : w5.cell? ⟨w.heap.size + 2, 2, none⟩ = some (.slice A2 l2.length c2) := (i5.cell 2).trans (hat 2 (by simp))
    have k3 : w5.cell? ⟨w.heap.size + 2, 3, none⟩ = some (.slice A3 l3.length c3) := (i5.cell 3).trans (hat 3 (by simp))
    obtain ⟨⟨o0, e0, b0⟩, ⟨o1, e1, b1⟩, ⟨o2, e2, b2⟩, ⟨o3, e3, b3⟩⟩ := gots_st hgs
    have hok : Sta.Ok w5 ⟨⟨A0, l0, c0⟩, ⟨A1, l1, c1⟩, ⟨A2, l2, c2⟩, ⟨A3, l3, c3⟩⟩ := ⟨o0, o1, o2, o3⟩
    have hst : (Sta.mk ⟨A0, l0, c0⟩ ⟨A1, l1, c1⟩ ⟨A2, l2, c2⟩ ⟨A3, l3, c3⟩).st = St.cut h.hs T := by
      unfold Sta.st St.cut
      rw [e0, e1, e2, e3]
    have HST := Lib.hid hst
    have hf8 : ∀ (W : World), Fr (fun k => k = w.heap.size + 1) w5 W → Sta.Ok W ⟨⟨A0, l0, c0⟩, ⟨A1, l1, c1⟩, ⟨A2, l2, c2⟩, ⟨A3, l3, c3⟩⟩ := fun W F => by
      exact ⟨o0.fr F fun q hq e => by have := b0 q hq; omega, o1.fr F fun q hq e => by have := b1 q hq; omega, o2.fr F fun q hq e => by have := b2 q hq; omega, o3.fr F fun q hq e => by have := b3 q hq; omega⟩
    have hnew : Sta.New ⟨⟨A0, l0, c0⟩, ⟨A1, l1, c1⟩, ⟨A2, l2, c2⟩, ⟨A3, l3, c3⟩⟩ w.heap.size := ⟨fun q hq => Nat.le_trans HF4.out.size (b0 q hq), fun q hq => Nat.le_trans HF4.out.size (b1 q hq), fun q hq => Nat.le_trans HF4.out.size (b2 q hq), fun q hq => Nat.le_trans HF4.out.size (b3 q hq)⟩
    have HNEW := Lib.hid hnew
    have HF8 := Lib.hid hf8
    have HSZ := Lib.hid hsz4
    clear hnew hf8 hst hok o0 e0 b0 o1 e1 b1 o2 e2 b2 o3 e3 b3 hat hgs hR HRR4 hx hcs i5 hsz4
    go_wp2_with fail
    have f58 := ((((Fr.refl (fun k => k = w.heap.size + 1) w5).setCell (p := ⟨w.heap.size + 1, 0, none⟩) (.inl rfl) (.slice A0 l0.length c0)).setCell (p := ⟨w.heap.size + 1, 1, none⟩) (.inl rfl) (.slice A1 l1.length c1)).setCell (p := ⟨w.heap.size + 1, 2, none⟩) (.inl rfl) (.slice A2 l2.length c2)).setCell (p := ⟨w.heap.size + 1, 3, none⟩) (.inl rfl) (.slice A3 l3.length c3)
    have i7 := (((j5.set 0 (.slice A0 l0.length c0)).set 1 (.slice A1 l1.length c1)).set 2 (.slice A2 l2.length c2)).set 3 (.slice A3 l3.length c3)
    clear n0 z0 z1 z2 z3 j5 k0 k1 k2 k3
    generalize (((w5.setCell ⟨w.heap.size + 1, 0, none⟩ (.slice A0 l0.length c0)).setCell ⟨w.heap.size + 1, 1, none⟩ (.slice A1 l1.length c1)).setCell ⟨w.heap.size + 1, 2, none⟩ (.slice A2 l2.length c2)).setCell ⟨w.heap.size + 1, 3, none⟩ (.slice A3 l3.length c3) = W at *
    obtain ⟨m0, m1, m2, m3⟩ := four_cells i7
    refine bodyPost_ret (v := .tuple #[.agg #[.slice A0 l0.length c0, .slice A1 l1.length c1, .slice A2 l2.length c2, .slice A3 l3.length c3], .int .i64 0]) (by simp [results, Try.results72, go_sem, m0, m1, m2, m3]) rfl ⟨⟨⟨A0, l0, c0⟩, ⟨A1, l1, c1⟩, ⟨A2, l2, c2⟩, ⟨A3, l3, c3⟩⟩, ?_, ?_, HF8.out _ f58, HNEW.out, g5.trans f58 (fun j hj e => by omega)⟩
    · rw [HR.out]; rfl
    · rw [HR.out]; exact HST.out
theorem rstatus_any {h : Sh} (hh : h.Ok) (s : ByteArray) (w : World) :
    Calls Try.prog 72 #[h.val, .string s] w fun e w' => ∃ x : Sta, e = .returned (.tuple #[x.val, .int .i64 (rstL h.hs (bytesOf s)).2]) ∧ x.st = (rstL h.hs (bytesOf s)).1 ∧ x.Ok w' ∧ Fr (fun _ => False) w w' :=
  (rstatus_new hh s w).mono fun _ _ ⟨x, he, hs, hok, _, f⟩ => ⟨x, he, hs, hok, f⟩
end Go.Proofs.Ytfmhfngilimhjaa.Te


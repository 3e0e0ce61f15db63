/- The walk of CellsApart. -/
import Derived.Test.YtafhkhkpknipmaaFree
namespace Go.Proofs.Ytafhkhkpknipmaa
open Go.RowKit Go.Maps

/-! what comes to pass, plainly -/
namespace Ap
variable (q : Nat) (t : List UInt8)
def m1 : Mm := { Mm.new with acts := 1, pg := layP Mm.new.pg q 0 t }
def n1 : Mm := { (m1 q t).again with acts := 1, pg := layP (m1 q t).pg q 0 (List.replicate 4096 255), worn := fun p => if p = q then 1 else 0 }
def n2 : Mm := { (n1 q t) with acts := 2, pg := layP (n1 q t).pg q 0 [111, 116, 104, 101, 114] }
def m2 : Mm := (m1 q t).arm fun i => cutAt [(0, 0)] i
def m3 : Mm := { (m2 q t) with acts := 2, down := true, worn := fun p => if p = q then 1 else 0 }
variable {q t}
theorem b1 (hq : q < 24) (hl : t.length ≤ 4096) : Mm.new.burnE (q : Int) 0 t = 0 ∧ Mm.new.burnM (q : Int) 0 t = m1 q t :=
  burn_free (m := Mm.new) (a := 0) rfl rfl hq (by omega) fun _ _ => rfl
theorem b2 (hq : q < 24) : (m1 q t).again.eraseE (q : Int) = 0 ∧ (m1 q t).again.eraseM (q : Int) = n1 q t :=
  erase_free (m := (m1 q t).again) rfl rfl hq
theorem b3 (hq : q < 24) : (n1 q t).burnE (q : Int) 0 [111, 116, 104, 101, 114] = 0 ∧ (n1 q t).burnM (q : Int) 0 [111, 116, 104, 101, 114] = n2 q t :=
  burn_free (m := n1 q t) (a := 0) rfl rfl hq (by simp) fun i hi => by
    show layP _ q 0 _ q (0 + i) = 255
    rw [lay_rep, if_pos ⟨rfl, by simp at hi; omega⟩]
theorem b4 (hq : q < 24) (hl : t.length ≤ 4096) : (m1 q t).spotE (q : Int) 0 (t.length : Int) = 0 ∧ (m1 q t).readT (q : Int) 0 (t.length : Int) = t :=
  read_is (m := m1 q t) (a := 0) rfl hq (by omega) fun i x hx => layP_in _ _ _ _ _ _ hx
theorem b5 (hq : q < 24) : (n2 q t).spotE (q : Int) 0 5 = 0 ∧ (n2 q t).readT (q : Int) 0 5 = [111, 116, 104, 101, 114] :=
  read_is (m := n2 q t) (a := 0) (l := [111, 116, 104, 101, 114]) rfl hq (by simp) fun i x hx => layP_in _ _ _ _ _ _ hx
theorem b6 (hq : q < 24) : (m2 q t).eraseE (q : Int) = 14 ∧ (m2 q t).eraseM (q : Int) = m3 q t := by
  have h := erase_hit (m := m2 q t) (x := 0) rfl rfl hq
  refine ⟨h.1, h.2.trans ?_⟩
  rw [show min (0 : Int).toNat 4096 = 0 from rfl, List.replicate_zero, layP_nil]
  rfl
theorem b7 (hq : q < 24) : (n2 q t).bare (q : Int) = 5 := by
  refine bare_is hq (by omega) (fun i h1 h2 => ?_) (.inr ?_)
  · show layP _ q 0 _ q i = 255
    rw [layP_out _ _ _ _ _ _ (by simp; omega)]
    show layP _ q 0 _ q i = 255
    rw [lay_rep, if_pos ⟨rfl, h2⟩]
  · have := layP_in (n1 q t).pg q 0 [111, 116, 104, 101, 114] 4 114 rfl
    show layP _ q 0 _ q (0 + 4) ≠ 255
    rw [this]
    decide
theorem b8 (hq : q < 24) (l : List UInt8) (hl : l.length + 1 ≤ 4096) : (m3 q (l ++ [101])).bare (q : Int) = l.length + 1 := by
  refine bare_is hq hl (fun i h1 h2 => ?_) (.inr ?_)
  · show layP _ q 0 _ q i = 255
    rw [layP_out _ _ _ _ _ _ (by simp; omega)]
    rfl
  · have := layP_in Mm.new.pg q 0 (l ++ [101]) l.length 101 (by simp)
    show layP _ q 0 _ q (l.length + 1 - 1) ≠ 255
    rw [show l.length + 1 - 1 = 0 + l.length by omega, this]
    decide
end Ap

set_option maxRecDepth 100000 in
set_option maxHeartbeats 8000000 in
theorem apart_walk (text : ByteArray) (page : Int) (ht : text.size ≤ 140737488351232) (w : World) :
    Calls Try.prog 8 #[.string text, .int .i64 page] w fun e w' => e = .returned (.bool true) ∧ Below w.heap.size w w' := by
  obtain ⟨q, hq', hq24⟩ := umod page 24 (by decide) (by decide)
  have hq : wrap64 ((IntKind.u64.wrap page).tmod 24) = (q : Int) := hq'
  obtain ⟨n, hn⟩ : ∃ n : Nat, n = min text.size 100 := ⟨_, rfl⟩
  have hmin : (min (text.size : Int) 100).toNat = n := by omega
  have hsz : (text.extract 0 n).size = n := by rw [ByteArray.size_extract]; omega
  have hn2 : n ≤ 100 := by omega
  clear hn hq'
  go_enter Try.func8, Try.ntmps8
  go_wp2_with fail
  refine (lives_any w).mono ?_
  rintro e w1 ⟨rfl, F1⟩
  have G1 := Lib.hid F1
  clear F1
  go_wp2_with fail
  simp only [hq]
  clear hmin hq
  generalize text.extract 0 n = s at *
  have hs : s.size ≤ 100 := by omega
  clear hsz hn2
  have hbl := bytesOf_length s
  obtain ⟨t, ht⟩ : ∃ t, t = bytesOf s ++ [101] := ⟨_, rfl⟩
  have htl : t.length = s.size + 1 := by rw [ht, List.length_append, hbl]; rfl
  have B1 := Lib.hid (Ap.b1 (t := t) hq24 (by omega))
  have B2 := Lib.hid (Ap.b2 (t := t) hq24)
  have B3 := Lib.hid (Ap.b3 (t := t) hq24)
  have B4 := Lib.hid (Ap.b4 (t := t) hq24 (by omega))
  have B5 := Lib.hid (Ap.b5 (t := t) hq24)
  have B6 := Lib.hid (Ap.b6 (t := t) hq24)
  have B7 := Lib.hid (Ap.b7 (t := t) hq24)
  have B8 := Lib.hid (ht ▸ Ap.b8 hq24 (bytesOf s) (by omega))
  have TL := Lib.hid htl
  have HT := Lib.hid ht
  have HB := Lib.hid hbl
  clear htl ht hbl
  refine (new_any _).mono ?_
  rintro e w2 ⟨rfl, M2, F2⟩
  obtain ⟨b, hb⟩ : ∃ b, b = w1.heap.size := ⟨_, rfl⟩
  have hb0 : w.heap.size ≤ b := by have := G1.out.size; omega
  rw [← hb] at M2 ⊢
  have G2 := Lib.hid (fr_nil G1.out F2)
  have H2 := Lib.hid M2
  clear F2 M2 hb G1
  go_wp2_with fail
  refine (burn_new H2.out (by decide) q 0 (by omega) (by omega) (by decide) (by decide) [s, ⟨#[101]⟩] (by simp) (t := t) (by rw [HT.out]; simp [jn]; rfl) (by have := TL.out; omega) B1.out.1 B1.out.2).mono ?_
  rintro e w3 ⟨rfl, M3, F3, z3⟩
  have G3 := Lib.hid (fr_foot G2.out F3 hb0 fun k hk => by cases hk)
  have H3 := Lib.hid M3
  clear M3 F3 G2 H2 z3 B1
  go_wp2_with fail
  refine (again_any H3.out).mono ?_
  rintro e w4 ⟨rfl, M4, F4⟩
  have q3 := H3.out.blt
  obtain ⟨c, hc⟩ : ∃ c, c = w3.heap.size := ⟨_, rfl⟩
  have hc0 : w.heap.size ≤ c := by omega
  have hbc : b ≠ c := by omega
  rw [← hc] at M4 ⊢
  have G4 := Lib.hid (fr_nil G3.out F4)
  have H4 := Lib.hid (H3.out.none F4)
  have I4 := Lib.hid M4
  clear M4 F4 G3 H3 hc q3
  have F1 := foot_not (b := b) (c := c) (r := none) (s := none) hbc (by intro e; cases e) (by intro e; cases e) (fun _ e _ => by cases e)
  have FN := Lib.hid F1
  clear F1
  go_wp2_with fail
  refine (erase_at I4.out (by show (0 : Nat) < _; decide) (fun _ => by show (0 : Nat) < _; decide) q (by omega) (by omega) B2.out.1 B2.out.2).mono ?_
  rintro e w5 ⟨rfl, M5, F5⟩
  have G5 := Lib.hid (fr_foot G4.out F5 hc0 fun k hk => by cases hk)
  have H5 := Lib.hid (H4.out.fr F5 FN.out.1 FN.out.2)
  have I5 := Lib.hid M5
  clear M5 F5 G4 H4 I4 B2
  go_wp2_with fail
  refine (burn_new I5.out (by show (1 : Nat) < _; decide) q 0 (by omega) (by omega) (by decide) (by decide) [⟨#[111, 116, 104, 101, 114]⟩] (by decide) (t := [111, 116, 104, 101, 114]) rfl (by decide) B3.out.1 B3.out.2).mono ?_
  rintro e w6 ⟨rfl, M6, F6, z6⟩
  have G6 := Lib.hid (fr_foot G5.out F6 hc0 fun k hk => by cases hk)
  have H6 := Lib.hid (H5.out.fr F6 FN.out.1 FN.out.2)
  have I6 := Lib.hid M6
  clear M6 F6 G5 H5 I5 B3 z6
  have RL : Hid ((s.size : Int) + 1 = (t.length : Int)) := Lib.hid (by have := TL.out; omega)
  go_wp2_with fail
  rw [RL.out]
  refine (read_at H6.out q 0 t.length (by omega) (by omega) (by decide) (by decide) (by omega) (by have := TL.out; omega) B4.out.1 B4.out.2).mono ?_
  rintro e w' ⟨rfl, rfl⟩
  go_wp2_with fail
  refine (read_at I6.out q 0 5 (by omega) (by omega) (by decide) (by decide) (by decide) (by decide) B5.out.1 B5.out.2).mono ?_
  rintro e w' ⟨rfl, rfl⟩
  have eT : (⟨t.toArray⟩ : ByteArray) = s ++ ⟨#[101]⟩ := bytesOf_inj (by rw [bytesOf_append, HT.out]; rfl)
  rw [eT]
  clear eT
  have q1 : ((s ++ ⟨#[101]⟩ : ByteArray).toList == (s ++ ⟨#[101]⟩ : ByteArray).toList) = true := beq_self_eq_true _
  go_wp2_with fail
  refine (arm_new H6.out [(0, 0)] (by decide) (by decide) (m' := Ap.m2 q t) rfl).mono ?_
  rintro e w7 ⟨rfl, M7, F7, z7⟩
  have G7 := Lib.hid (fr_one G6.out F7 hb0)
  have q6 := I6.out.blt
  obtain ⟨r, hr⟩ : ∃ r, r = w6.heap.size + 1 := ⟨_, rfl⟩
  have hrc : r ≠ c := by omega
  have hr0 : w.heap.size ≤ r := by omega
  rw [← hr] at M7
  have H7 := Lib.hid M7
  have I7 := Lib.hid (I6.out.fr F7 hbc.symm fun k hk => by cases hk)
  clear M7 F7 G6 H6 I6 hr z7 q6 FN
  have F1 := foot_not (b := c) (c := b) (r := none) (s := some r) hbc.symm (by intro e; injection e with e; exact hrc e) (by intro e; cases e) (fun _ e _ => by cases e)
  have FN := Lib.hid F1
  clear F1
  go_wp2_with fail
  refine (erase_at H7.out (by show (1 : Nat) < _; decide) (fun _ => by show (0 : Nat) < _; decide) q (by omega) (by omega) B6.out.1 B6.out.2).mono ?_
  rintro e w8 ⟨rfl, M8, F8⟩
  have G8 := Lib.hid (fr_foot G7.out F8 hb0 fun k hk => by injection hk with hk; omega)
  have I8 := Lib.hid (I7.out.fr F8 FN.out.1 FN.out.2)
  have H8 := Lib.hid M8
  clear M8 F8 G7 H7 I7 B6
  go_wp2_with fail
  refine (down_at I8.out (d := false) rfl).mono ?_
  rintro e w' ⟨rfl, rfl⟩
  go_wp2_with fail
  refine (bare_at I8.out q (by omega) (by omega) B7.out).mono ?_
  rintro e w' ⟨rfl, rfl⟩
  go_wp2_with fail
  refine (bare_at H8.out q (by omega) (by omega) B8.out).mono ?_
  rintro e w' ⟨rfl, rfl⟩
  rw [HB.out]
  have q2 : ((s.size : Int) + 1 == (s.size : Int) + 1) = true := beq_self_eq_true _
  go_wp2_with fail
  go_ret
  exact ⟨rfl, G8.out.toBelow⟩
end Go.Proofs.Ytafhkhkpknipmaa

/- The walk of CellsOnce. -/
import Derived.Test.YtafhkhkpknipmaaFree
namespace Go.Proofs.Ytafhkhkpknipmaa
open Go.RowKit Go.Maps

/-- 'make([]byte, n)' -/
theorem mk_bytes0 (n : Nat) (hn : n ≤ 140737488355328) (W : World) : (Instr.makeSlice 53 (.int .i64 (n : Int)) (.int .i64 (n : Int))).run Try.prog W = .ok (.slice (some ⟨W.heap.size, 0, none⟩) n n) (W.alloc (.cells (List.replicate n (Value.int .u8 0)).toArray 5)) := by
  obtain ⟨i0, hi, hz0, hz1, hz2⟩ := info_parts Try.infoB
  have h := run_make (P := Try.prog) W 53 5 i0 (.int .u8 0) Try.underlying53 hi hz0 .i64 .i64 n n (by omega) (by omega) (by rw [hz2]; omega) (by omega)
  have e : madeCells (Value.int .u8 0).cells n = (List.replicate n (Value.int .u8 0)).toArray := by
    apply Array.ext'
    rw [← toList_madeCells_one]
    rfl
  simpa [hz1, e] using h
theorem mk_bytes (n : Nat) (hn : n ≤ 140737488355328) (W : World) : (Instr.makeSlice 53 (.int .i64 (n : Int)) (.int .i64 (n : Int))).run Try.prog W = .ok (.slice (some ⟨W.heap.size, 0, none⟩) n n) (W.alloc (.cells (Array.replicate n (Value.int .u8 0)) 5)) := by
  have h := mk_bytes0 n hn W
  rw [List.toArray_replicate] at h
  exact h
/-- .. as a text -/
theorem zeros_text (n : Nat) (W : World) : (convert 53 9 (.slice (some ⟨W.heap.size, 0, none⟩) n n)).run Try.prog (W.alloc (.cells (Array.replicate n (Value.int .u8 0)) 5)) = .ok (.string ⟨(List.replicate n 0).toArray⟩) (W.alloc (.cells (Array.replicate n (Value.int .u8 0)) 5)) := by
  have K := text_of (w := W.alloc (.cells (Array.replicate n (Value.int .u8 0)) 5)) (b := W.heap.size) (o := 0) (n := n) (c := n) (f := fun _ => 0) (fun i hi => by
    have := (Is.new W 5 (Array.replicate n (Value.int .u8 0))).cell (0 + i)
    rw [this, Nat.zero_add]
    simp [hi, B])
  have e : cutP (fun _ => (0 : UInt8)) 0 n = List.replicate n 0 := by
    unfold cutP
    simp [List.map_const']
  rw [e] at K
  exact K

namespace On
variable (a : Nat) (t : List UInt8)
def m1 : Mm := { Mm.new with acts := 1, pg := layP Mm.new.pg 2 a t }
def m2 : Mm := { (m1 a t) with acts := 2 }
def m3 : Mm := { (m1 a t) with acts := 3, pg := layP (m1 a t).pg 2 (a + t.length) (List.replicate (4096 - (a + t.length)) 0) }
def m4 : Mm := { (m3 a t) with acts := 4 }
variable {a t}
theorem c1 (ht : a + t.length ≤ 4095) : Mm.new.burnE 2 (a : Int) t = 0 ∧ Mm.new.burnM 2 (a : Int) t = m1 a t :=
  burn_free (m := Mm.new) (p := 2) rfl rfl (by decide) (by omega) fun _ _ => rfl
theorem at_lay (i : Nat) (h : i < t.length) : (m1 a t).pg 2 (a + i) = t[i] := layP_in _ _ _ _ _ _ (List.getElem?_eq_getElem h)
theorem c2 (ht : a + t.length ≤ 4095) (l : List UInt8) (hl : t = 97 :: l ++ [98]) : (m1 a t).burnE 2 (a : Int) [120] = 15 ∧ (m1 a t).burnM 2 (a : Int) [120] = m1 a t :=
  burn_full (m := m1 a t) (p := 2) (i := 0) rfl (by decide) (by simp; omega) (by simp) (by
    subst hl
    rw [at_lay 0 (by simp)]
    simp)
theorem c3 (ht : a + t.length ≤ 4095) (l : List UInt8) (hl : t = 97 :: l ++ [98]) (z : Nat) (hz : z + 1 = a + t.length) : (m1 a t).burnE 2 (z : Int) [120] = 15 ∧ (m1 a t).burnM 2 (z : Int) [120] = m1 a t :=
  burn_full (m := m1 a t) (p := 2) (i := 0) rfl (by decide) (by simp; omega) (by simp) (by
    have hlt : l.length + 1 < t.length := by rw [hl]; simp
    have htl : t.length = l.length + 2 := by rw [hl]; simp
    rw [show z + 0 = a + (l.length + 1) by omega, at_lay _ hlt]
    subst hl
    simp)
theorem c4 (ht : a + t.length ≤ 4095) (l : List UInt8) (hl : t = 97 :: l ++ [98]) (z : Nat) (hz : z + 1 = a ∨ z = 0 ∧ a = 0) : (m1 a t).burnE 2 (z : Int) [120, 120] = 15 ∧ (m1 a t).burnM 2 (z : Int) [120, 120] = m1 a t := by
  have htl : t.length = l.length + 2 := by rw [hl]; simp
  have h0 : (m1 a t).pg 2 a ≠ 255 := by
    have := at_lay (a := a) (t := t) 0 (by omega)
    rw [Nat.add_zero] at this
    rw [this]
    subst hl
    simp
  rcases hz with h | ⟨h, h'⟩
  · exact burn_full (m := m1 a t) (p := 2) (i := 1) rfl (by decide) (by simp; omega) (by simp) (by rw [h]; exact h0)
  · exact burn_full (m := m1 a t) (p := 2) (i := 0) rfl (by decide) (by simp; omega) (by simp) (by rw [show z + 0 = a by omega]; exact h0)
theorem c5 (z : Nat) (hz : z ≤ 4096) : (m1 a t).burnE 2 (z : Int) [] = 0 ∧ (m1 a t).burnM 2 (z : Int) [] = m2 a t := by
  have h := burn_free (m := m1 a t) (p := 2) (a := z) (t := []) rfl rfl (by decide) (by simpa using hz) (fun i hi => by simp at hi)
  refine ⟨h.1, h.2.trans ?_⟩
  rw [layP_nil]
  rfl
theorem c6 (ht : a + t.length ≤ 4095) : (m2 a t).spotE 2 (a : Int) (t.length : Int) = 0 ∧ (m2 a t).readT 2 (a : Int) (t.length : Int) = t :=
  read_is (m := m2 a t) (p := 2) rfl (by decide) (by omega) fun i x hx => layP_in _ _ _ _ _ _ hx
theorem c7 (ht : a + t.length ≤ 4095) (l : List UInt8) (hl : t = 97 :: l ++ [98]) : (m2 a t).bare 2 = a + t.length := by
  have htl : t.length = l.length + 2 := by rw [hl]; simp
  refine bare_is (m := m2 a t) (p := 2) (by decide) (by omega) (fun i h1 h2 => ?_) (.inr ?_)
  · show layP _ 2 a _ 2 i = 255
    rw [layP_out _ _ _ _ _ _ (by omega)]
    rfl
  · show (m1 a t).pg 2 (a + t.length - 1) ≠ 255
    rw [show a + t.length - 1 = a + (l.length + 1) by omega, at_lay _ (by omega)]
    subst hl
    simp
theorem long_spot {m : Mm} (hd : m.down = false) (z n : Nat) (hz : z ≤ 4096) (hn : 4096 < z + n) : m.spotE 2 (z : Int) (n : Int) = 2 := by
  unfold Mm.spotE
  rw [if_neg (by rw [hd]; decide), if_neg (by omega), if_pos (by omega)]
theorem c8 {m : Mm} (hd : m.down = false) (z : Nat) (hz : z ≤ 4096) (x : List UInt8) (hx : 4096 < z + x.length) : m.burnE 2 (z : Int) x = 2 ∧ m.burnM 2 (z : Int) x = m := by
  have hs := long_spot hd z x.length hz hx
  have := burnE_no (m := m) (p := 2) (a := (z : Int)) (t := x) (by rw [hs]; decide)
  rw [hs] at this
  exact this
theorem c9 (ht : a + t.length ≤ 4095) (z : Nat) (hz : z = a + t.length) (d : Nat) (hd : z + d = 4096) : (m2 a t).burnE 2 (z : Int) (List.replicate d 0) = 0 ∧ (m2 a t).burnM 2 (z : Int) (List.replicate d 0) = m3 a t := by
  subst hz
  have h := burn_free (m := m2 a t) (p := 2) (a := a + t.length) (t := List.replicate d 0) rfl rfl (by decide) (by rw [List.length_replicate]; omega) (fun i hi => by
    show layP _ 2 a _ 2 (a + t.length + i) = 255
    rw [layP_out _ _ _ _ _ _ (by omega)]
    rfl)
  refine ⟨h.1, h.2.trans ?_⟩
  rw [show d = 4096 - (a + t.length) by omega]
  rfl
theorem c10 (ht : a + t.length ≤ 4095) : (m3 a t).bare 2 = 4096 := by
  refine bare_is (m := m3 a t) (p := 2) (by decide) (Nat.le_refl _) (fun i h1 h2 => by omega) (.inr ?_)
  show layP _ 2 (a + t.length) _ 2 4095 ≠ 255
  have := layP_in (m1 a t).pg 2 (a + t.length) (List.replicate (4096 - (a + t.length)) 0) (4095 - (a + t.length)) 0 (by rw [List.getElem?_replicate, if_pos (by omega)])
  rw [show a + t.length + (4095 - (a + t.length)) = 4095 by omega] at this
  rw [this]
  decide
theorem c11 : (m3 a t).burnE 2 4096 [] = 0 ∧ (m3 a t).burnM 2 4096 [] = m4 a t := by
  have h := burn_free (m := m3 a t) (p := 2) (a := 4096) (t := []) rfl rfl (by decide) (by simp) (fun i hi => by simp at hi)
  refine ⟨h.1, h.2.trans ?_⟩
  rw [layP_nil]
  rfl
theorem c12 : (m4 a t).burnE 2 4096 [120] = 2 ∧ (m4 a t).burnM 2 4096 [120] = m4 a t := c8 (m := m4 a t) rfl 4096 (Nat.le_refl _) [120] (by decide)
end On

set_option maxRecDepth 100000 in
set_option maxHeartbeats 8000000 in
theorem once_walk (text : ByteArray) (at' over : Int) (ht : text.size ≤ 140737488351232) (w : World) :
    Calls Try.prog 6 #[.string text, .int .i64 at', .int .i64 over] w fun e w' => e = .returned (.bool true) ∧ Below w.heap.size w w' := by
  obtain ⟨a, ha', ha3⟩ := umod at' 3000 (by decide) (by decide)
  have ha : wrap64 ((IntKind.u64.wrap at').tmod 3000) = (a : Int) := ha'
  obtain ⟨n, hn⟩ : ∃ n : Nat, n = min text.size 500 := ⟨_, rfl⟩
  have hmin : (min (text.size : Int) 500).toNat = n := by omega
  have hsz : (text.extract 0 n).size = n := by rw [ByteArray.size_extract]; omega
  have hn2 : n ≤ 500 := by omega
  clear hn ha'
  go_enter Try.func6, Try.ntmps6
  go_wp2_with fail
  refine (lives_any w).mono ?_
  rintro e w1 ⟨rfl, F1⟩
  have G1 := Lib.hid F1
  clear F1
  go_wp2_with fail
  simp only [ha]
  clear hmin ha
  obtain ⟨l, hl⟩ : ∃ l, l = bytesOf (text.extract 0 n) := ⟨_, rfl⟩
  have hll : l.length = n := by rw [hl, bytesOf_length, hsz]
  have hX : bytesOf ((⟨#[97]⟩ : ByteArray) ++ text.extract 0 n ++ ⟨#[98]⟩) = 97 :: l ++ [98] := by rw [bytesOf_append, bytesOf_append, ← hl]; rfl
  generalize ((⟨#[97]⟩ : ByteArray) ++ text.extract 0 n ++ ⟨#[98]⟩) = X at *
  obtain ⟨t, htt⟩ : ∃ t, t = bytesOf X := ⟨_, rfl⟩
  rw [← htt] at hX
  have hXs : X.size = t.length := by rw [htt, bytesOf_length]
  have htl : t.length = n + 2 := by rw [hX]; simp [hll]
  have HT := Lib.hid htt
  have hE : a + t.length ≤ 4095 := by omega
  obtain ⟨E, hEE⟩ : ∃ E : Nat, E = a + t.length := ⟨_, rfl⟩
  obtain ⟨d, hd⟩ : ∃ d : Nat, E + d = 4096 := ⟨4096 - E, by omega⟩
  obtain ⟨y, hy, hyl⟩ := umod over X.size (by omega) (by omega)
  obtain ⟨z, hz⟩ : ∃ z : Nat, z + 1 = a ∨ z = 0 ∧ a = 0 := by
    rcases a with _ | a
    · exact ⟨0, .inr ⟨rfl, rfl⟩⟩
    · exact ⟨a, .inl rfl⟩
  have C1 := Lib.hid (On.c1 hE)
  have C2 := Lib.hid (On.c2 hE l hX)
  have C3 := Lib.hid (On.c3 hE l hX (E - 1) (by omega))
  have C4 := Lib.hid (On.c4 hE l hX z hz)
  have C5 := Lib.hid (On.c5 (a := a) (t := t) (a + y) (by omega))
  have C6 := Lib.hid (On.c6 hE)
  have C7 := Lib.hid (hEE ▸ On.c7 hE l hX)
  have C8 := Lib.hid (On.c8 (m := On.m2 a t) rfl E (by omega) (List.replicate (d + 1) 0) (by rw [List.length_replicate]; omega))
  have C9 := Lib.hid (On.c9 hE E hEE d hd)
  have C10 := Lib.hid (On.c10 hE)
  have e1 : (a : Int) + (X.size : Int) = (E : Int) := by omega
  have e2 : (E : Int) - 1 = ((E - 1 : Nat) : Int) := by omega
  have e3 : max ((a : Int) - 1) 0 = (z : Int) := by omega
  have e4 : (4096 : Int) - (E : Int) = (d : Int) := by omega
  have hE2 : E ≤ 4095 := by omega
  have hay : a + y ≤ 4096 := by omega
  have hXt : (X.size : Int) = (t.length : Int) := by omega
  have ht5 : t.length ≤ 502 := by omega
  have HXT := Lib.hid hXt
  have HE := Lib.hid e1
  have H2 := Lib.hid e2
  have H3 := Lib.hid e3
  have H4 := Lib.hid e4
  have HY := Lib.hid hy
  clear hl hll hX htt hXs htl hE hEE hd hz e1 e2 e3 e4 hXt hy hsz
  refine (new_any _).mono ?_
  rintro e w2 ⟨rfl, M2, F2⟩
  obtain ⟨b, hb⟩ : ∃ b, b = w1.heap.size := ⟨_, rfl⟩
  have hb0 : w.heap.size ≤ b := by have := G1.out.size; omega
  rw [← hb] at M2 ⊢
  have G2 := Lib.hid (fr_nil G1.out F2)
  have N2 := Lib.hid M2
  clear F2 M2 hb G1
  go_wp2_with fail
  refine (burn_new N2.out (by decide) 2 a (by decide) (by decide) (by omega) (by omega) [X] (by simp) (t := t) (by rw [HT.out]; exact jn_one X) (by omega) C1.out.1 C1.out.2).mono ?_
  rintro e w3 ⟨rfl, M3, F3, z3⟩
  have G3 := Lib.hid (fr_foot G2.out F3 hb0 fun k hk => by cases hk)
  have N3 := Lib.hid M3
  clear M3 F3 G2 N2 z3 C1
  have e1 := HE.out
  have e2 := H2.out
  have e3 := H3.out
  have e4 := H4.out
  go_wp2_with fail
  simp only [HY.out]
  have hw : wrap64 ((a : Int) + (y : Int)) = ((a + y : Nat) : Int) := by rw [IntWalk.wrap64_in _ ⟨by omega, by omega⟩]; omega
  rw [hw]
  clear hw e1
  refine (burn_new N3.out (by show (1 : Nat) < _; decide) 2 a (by decide) (by decide) (by omega) (by omega) [⟨#[120]⟩] (by decide) (t := [120]) rfl (by decide) C2.out.1 C2.out.2).mono ?_
  rintro e w4 ⟨rfl, M3, F3, z3⟩
  have G4 := Lib.hid (fr_foot G3.out F3 hb0 fun k hk => by cases hk)
  have N4 := Lib.hid M3
  clear M3 F3 G3 N3 z3 C2
  go_wp2_with fail
  refine (burn_new N4.out (by show (1 : Nat) < _; decide) 2 ((E - 1 : Nat) : Int) (by decide) (by decide) (by omega) (by omega) [⟨#[120]⟩] (by decide) (t := [120]) rfl (by decide) C3.out.1 C3.out.2).mono ?_
  rintro e w5 ⟨rfl, M3, F3, z3⟩
  have G5 := Lib.hid (fr_foot G4.out F3 hb0 fun k hk => by cases hk)
  have N5 := Lib.hid M3
  clear M3 F3 G4 N4 z3 C3
  go_wp2_with fail
  refine (burn_new N5.out (by show (1 : Nat) < _; decide) 2 z (by decide) (by decide) (by omega) (by omega) [⟨#[120, 120]⟩] (by decide) (t := [120, 120]) rfl (by decide) C4.out.1 C4.out.2).mono ?_
  rintro e w6 ⟨rfl, M3, F3, z3⟩
  have G6 := Lib.hid (fr_foot G5.out F3 hb0 fun k hk => by cases hk)
  have N6 := Lib.hid M3
  clear M3 F3 G5 N5 z3 C4 e2 e3
  go_wp2_with fail
  refine (burn_new N6.out (by show (1 : Nat) < _; decide) 2 ((a + y : Nat) : Int) (by decide) (by decide) (by omega) (by omega) [⟨#[]⟩] (by decide) (t := []) rfl (by decide) C5.out.1 C5.out.2).mono ?_
  rintro e w7 ⟨rfl, M3, F3, z3⟩
  have G7 := Lib.hid (fr_foot G6.out F3 hb0 fun k hk => by cases hk)
  have N7 := Lib.hid M3
  clear M3 F3 G6 N6 z3 C5
  go_wp2_with fail
  rw [HXT.out]
  refine (read_at N7.out 2 a t.length (by decide) (by decide) (by omega) (by omega) (by omega) (by omega) C6.out.1 C6.out.2).mono ?_
  rintro e w' ⟨rfl, rfl⟩
  have eT : (⟨t.toArray⟩ : ByteArray) = X := bytesOf_inj (by rw [HT.out]; exact bytesOf_mk _)
  rw [eT]
  clear eT
  have q1 : (X.toList == X.toList) = true := beq_self_eq_true _
  have q1' : (X.toList != X.toList) = false := by simp
  have q2 : ((E : Int) != (E : Int)) = false := by simp
  have hmk := mk_bytes (d + 1) (by omega)
  have htx := zeros_text (d + 1)
  have ed : ((d + 1 : Nat) : Int) = (d : Int) + 1 := by omega
  rw [ed] at hmk
  go_wp2_with fail
  refine (bare_at N7.out 2 (by decide) (by decide) C7.out).mono ?_
  rintro e w' ⟨rfl, rfl⟩
  go_wp2_with fail
  have K8 := burn_new (w := w7.alloc (.cells (Array.replicate (d + 1) (Value.int .u8 0)) 5)) (N7.out.none ((Fr.refl _ w7).alloc _)) (by show (2 : Nat) < _; decide) 2 E (by decide) (by decide) (by omega) (by omega) [⟨Array.replicate (d + 1) 0⟩] (by simp) (t := List.replicate (d + 1) 0) (by rw [jn_one]; show (Array.replicate (d + 1) 0).toList = _; rw [Array.toList_replicate]) (by rw [List.length_replicate]; omega) C8.out.1 C8.out.2
  rw [show (w7.alloc (.cells (Array.replicate (d + 1) (Value.int .u8 0)) 5)).heap.size = w7.heap.size + 1 by simp] at K8
  have K8 := Lib.hid K8
  clear hmk htx ed
  refine K8.out.mono ?_
  rintro e w8 ⟨rfl, M3, F3, z3⟩
  have G8 := Lib.hid (fr_foot (fr_nil G7.out ((Fr.refl (fun _ => False) w7).alloc (.cells (Array.replicate (d + 1) (Value.int .u8 0)) 5))) F3 hb0 fun k hk => by cases hk)
  have N8 := Lib.hid M3
  clear M3 F3 G7 N7 z3 C8 K8
  have hmk := mk_bytes d (by omega)
  have htx := zeros_text d
  go_wp2_with fail
  have K9 := burn_new (w := w8.alloc (.cells (Array.replicate d (Value.int .u8 0)) 5)) (N8.out.none ((Fr.refl _ w8).alloc _)) (by show (2 : Nat) < _; decide) 2 E (by decide) (by decide) (by omega) (by omega) [⟨Array.replicate d 0⟩] (by simp) (t := List.replicate d 0) (by rw [jn_one]; show (Array.replicate d 0).toList = _; rw [Array.toList_replicate]) (by rw [List.length_replicate]; omega) C9.out.1 C9.out.2
  rw [show (w8.alloc (.cells (Array.replicate d (Value.int .u8 0)) 5)).heap.size = w8.heap.size + 1 by simp] at K9
  have K9 := Lib.hid K9
  clear hmk htx
  refine K9.out.mono ?_
  rintro e w9 ⟨rfl, M3, F3, z3⟩
  have G9 := Lib.hid (fr_foot (fr_nil G8.out ((Fr.refl (fun _ => False) w8).alloc (.cells (Array.replicate d (Value.int .u8 0)) 5))) F3 hb0 fun k hk => by cases hk)
  have N9 := Lib.hid M3
  clear M3 F3 G8 N8 z3 C9 K9
  go_wp2_with fail
  refine (bare_at N9.out 2 (by decide) (by decide) C10.out).mono ?_
  rintro e w' ⟨rfl, rfl⟩
  go_wp2_with fail
  refine (burn_nil N9.out (by show (3 : Nat) < _; decide) 2 4096 (by decide) (by decide) (by decide) (by decide) On.c11.1 On.c11.2).mono ?_
  rintro e w10 ⟨rfl, M3, F3⟩
  have G10 := Lib.hid (fr_foot G9.out F3 hb0 fun k hk => by cases hk)
  have N10 := Lib.hid M3
  clear M3 F3 G9 N9
  go_wp2_with fail
  refine (burn_new N10.out (by show (4 : Nat) < _; decide) 2 4096 (by decide) (by decide) (by decide) (by decide) [⟨#[120]⟩] (by decide) (t := [120]) rfl (by decide) On.c12.1 On.c12.2).mono ?_
  rintro e w11 ⟨rfl, M3, F3, z3⟩
  have G11 := Lib.hid (fr_foot G10.out F3 hb0 fun k hk => by cases hk)
  clear M3 F3 G10 N10 z3
  go_wp2_with fail
  go_ret
  exact ⟨rfl, G11.out.toBelow⟩
end Go.Proofs.Ytafhkhkpknipmaa

/- strconv.AppendInt at base 10 onto a row whose block may bear a mark beyond its cells. -/
import Derived.Test.YtkkohdmneognlaaGreatDoorMak
import Derived.Lib.AppendIntMem
import Derived.Lib.ItoaLen
import Derived.Shelf.RegionOpenPlain
import Derived.Lib.Builder
import Derived.Lib.UnsafeStr
import Derived.Laws.Externs
import Derived.Lib.MakeNoZero
import Derived.Lib.Slices
import Derived.Deep.RegionHeld3
import Derived.RangeFuncNested
import Derived.RangeFuncCalls
import Derived.RangeFuncLeaves
namespace Go.Proofs.YtkkohdmneognlaaGreatDoor
open Go.RowKit Go.Sort Go.Lib Go.Shelf

theorem Tryz.infoB2 : ∃ i : TypeInfo, Tryz.prog.info? 5 = some i ∧ i.zero = some (.int .u8 0) ∧ i.size = 1 ∧ i.bytes = 1 := info_parts Tryz.infoB
theorem byteCells_B (l : List UInt8) : Lib.byteCells l = l.map B := rfl
theorem below_grown {B : Nat} {w w1 w2 : World} {row : Option Nat} (h : Below B w w1) (hg : w1.grownBy w2 row) (hB : B ≤ w1.heap.size) (hr : ∀ k, row = some k → B ≤ k) : Below B w w2 := h.grown hg hB hr

set_option maxHeartbeats 4000000 in
theorem auint_small (b n u : Nat) (hu : u < 100) (sv : Value) (xs : List Value) (w : World) (hown : ownsA w b 5 sv n xs) (hB : b ≤ w.heap.size) (hlim : n + 20 ≤ 140737488355328) :
    Calls Tryz.prog 158 #[sv, .int .u64 u, .int .i64 10] w fun e w' => ∃ v', e = .returned v' ∧ ownsA w' b 5 v' (n + (Lib.decDigits u).length) (xs ++ (Lib.decDigits u).map B) ∧ Below b w w' := by
  obtain ⟨i0, hi, hz0, hz1, hz2⟩ := Tryz.infoB2
  have hlen : (Lib.decDigits u).length ≤ 20 := by
    rw [Lib.decDigits_length]
    by_cases h10 : u < 10
    · rw [Lib.nDigits_small h10]; omega
    · rw [Lib.nDigits_big h10, Lib.nDigits_small (show u / 10 < 10 by omega)]; omega
  have hsz : (⟨(Lib.decDigits u).toArray⟩ : ByteArray).size = (Lib.decDigits u).length := by simp [ByteArray.size]
  have K := fun W => Any.internal_strconv_small { Tryz.laysM176 with } u hu W
  have iu : (u : Int) < 100 := by omega
  go_enter Tryz.func158, Tryz.ntmps158
  go_wp2_with fail
  refine (K _).mono ?_
  rintro _ _ ⟨rfl, rfl⟩
  go_wp2_with (at_builtin; refine wpList_appendA_string _ rfl _ _ 72 9 rfl i0 Tryz.underlying72 Tryz.underlying9 hi hz0 hz1 hz2 rfl hown ⟨(Lib.decDigits u).toArray⟩ rfl (by rw [hsz]; unfold maxLen; omega) (by rw [hsz]; omega) hB ?_)
  intro v' w1 hown' hgrow
  go_wp2
  go_ret
  refine ⟨v', rfl, ?_, below_grown (Below.refl b _) hgrow hB (fun k hk => (ownsA_lt hown k hk).1)⟩
  first | exact hown' | (rw [hsz] at hown'; exact hown')

set_option maxRecDepth 100000 in
set_option maxHeartbeats 8000000 in
theorem auint_big (b n u : Nat) (hu : 100 ≤ u) (hu64 : u < 18446744073709551616) (sv : Value) (xs : List Value) (w : World) (hown : ownsA w b 5 sv n xs) (hB : b ≤ w.heap.size) (hlim : n + 20 ≤ 140737488355328)
    (htab : Lib.TabIs Tryz.prog w "internal/strconv.uint64pow10" .u64 Lib.pow10Tab) :
    Calls Tryz.prog 158 #[sv, .int .u64 u, .int .i64 10] w fun e w' => ∃ v', e = .returned v' ∧ ownsA w' b 5 v' (n + (Lib.decDigits u).length) (xs ++ (Lib.decDigits u).map B) ∧ Below b w w' := by
  obtain ⟨i0, hi, hz0, hz1, hz2⟩ := Tryz.infoB2
  have hu1 : 1 ≤ u := by omega
  have hnd : Lib.nDigits u ≤ 20 := by have := Lib.numDigits_eq u hu1 hu64; split at this <;> omega
  have KD := fun W h => Any.internal_strconv_numDigits { Tryz.laysM176 with } u hu1 hu64 W h
  have hal : Tryz.prog.arrayLen 202 = 24 := by simp [Program.arrayLen, Tryz.underlying202]
  have hsl : ∀ W, (Instr.sliceAt 202 (.pointer (some ⟨w.heap.size, 0, none⟩)) none (some (.int .i64 (Lib.nDigits u : Int))) none).run Tryz.prog W = .ok (.slice (some ⟨w.heap.size, 0, none⟩) (Lib.nDigits u) 24) W := fun W => by
    rw [run_sliceAt_array_h W 202 ⟨w.heap.size, 0, none⟩ (by simp [Program.arrayLen, Program.elem, Tryz.underlying202]) .i64 (Lib.nDigits u : Int) (by omega) (by rw [hal]; omega)]
    go_simp
  clear hal
  have hH0 := Lib.holds_zero0 w 202 (Lib.nDigits u) (by omega)
  have KF := Any.internal_strconv_formatBase10 { Tryz.laysM176 with } w.heap.size 0 24 u (Array.replicate (Lib.nDigits u) 0) (w.alloc (.cells Lib.zeros24 202)) hH0 (by rw [Array.size_replicate]; exact Lib.lt_pow_nDigits u) hu64 (by rw [Array.size_replicate]; omega)
  rw [Array.size_replicate] at KF
  have HH := Lib.hid hH0
  have iu : (100 : Int) ≤ (u : Int) := by omega
  clear hH0
  go_enter Tryz.func158, Tryz.ntmps158
  go_wp2_with fail
  refine (KD _ (Lib.tabIs_alloc htab _)).mono ?_
  rintro _ _ ⟨rfl, rfl⟩
  go_wp2_with fail
  refine KF.mono ?_
  rintro e w' ⟨rfl, k, v', dk, rfl, hF⟩
  have hcells : ∀ j u', ((Lib.decDigits u).map B)[j]? = some u' → ((putRow (fun (b : UInt8) => Value.int .u8 (b.toNat : Int)) (w.alloc (.cells Lib.zeros24 202)) w.heap.size 0 dk).drewN k).cell? ((⟨w.heap.size, 0, none⟩ : Addr).add j) = some u' := by
    intro j u' hj
    have hjl : j < (Lib.decDigits u).length := by
      have h5 := (List.getElem?_eq_some_iff.1 hj).1
      rwa [List.length_map] at h5
    have e5 : ((Lib.decDigits u).map B)[j]? = some (Value.int .u8 ((Lib.decDigits u)[j].toNat : Int)) := by rw [List.getElem?_map, List.getElem?_eq_getElem hjl]; rfl
    rw [e5] at hj
    cases hj
    rw [Lib.row_is_numeral hF j hjl, Lib.add_plain, World.cell?_drewN]
    exact cell?_putRow (fun (b : UInt8) => Value.int .u8 (b.toNat : Int)) _ w.heap.size 0 _ dk HH.out (by rw [hF.size, Array.size_replicate]) j (by rw [hF.size]; rw [Lib.decDigits_length] at hjl; exact hjl)
  obtain ⟨os, eo⟩ := Lib.fin_at w (.cells Lib.zeros24 202) dk k 0
  have hB2 : Below w.heap.size w ((putRow (fun (b : UInt8) => Value.int .u8 (b.toNat : Int)) (w.alloc (.cells Lib.zeros24 202)) w.heap.size 0 dk).drewN k) := by rw [eo]; exact Lib.below_grow w.heap.size w (Nat.le_refl _) k os
  have hBb : Below b w ((putRow (fun (b : UInt8) => Value.int .u8 (b.toNat : Int)) (w.alloc (.cells Lib.zeros24 202)) w.heap.size 0 dk).drewN k) := by rw [eo]; exact Lib.below_grow b w hB k os
  generalize (putRow (fun (b : UInt8) => Value.int .u8 (b.toNat : Int)) (w.alloc (.cells Lib.zeros24 202)) w.heap.size 0 dk).drewN k = W2 at hcells hB2 hBb ⊢
  have hown2 : ownsA W2 b 5 sv n xs := ownsA_fr hown (Fr.ofBelow (S := fun _ => False) hB2) fun _ _ => id
  have hsz2 := hB2.size
  clear eo HH KF KD hB2
  go_wp2_with (at_builtin; refine wpList_appendA _ rfl _ _ 72 rfl i0 (.int .u8 0) 1 Tryz.underlying72 hi hz0 hz1 hz2 rfl rfl hown2 ⟨w.heap.size, 0, none⟩ (Lib.nDigits u) 24 ((Lib.decDigits u).map B) rfl ?c0 hcells ?c2 ?c3 ?c4 ?c5 ?_)
  case c0 => rw [List.length_map, Lib.decDigits_length]
  case c2 => intro u' hu'; simp only [List.mem_map] at hu'; obtain ⟨b, _, rfl⟩ := hu'; rfl
  case c3 => unfold maxLen; omega
  case c4 => omega
  case c5 => omega
  intro v2 w3 hown' hgrow
  go_wp2
  go_ret
  refine ⟨v2, rfl, ?_, below_grown hBb hgrow (by omega) (fun k hk => (ownsA_lt hown2 k hk).1)⟩
  rw [Lib.decDigits_length]
  exact hown'

theorem auint_any (b n u : Nat) (hu64 : u < 18446744073709551616) (sv : Value) (xs : List Value) (w : World) (hown : ownsA w b 5 sv n xs) (hB : b ≤ w.heap.size) (hlim : n + 20 ≤ 140737488355328)
    (htab : Lib.TabIs Tryz.prog w "internal/strconv.uint64pow10" .u64 Lib.pow10Tab) :
    Calls Tryz.prog 158 #[sv, .int .u64 u, .int .i64 10] w fun e w' => ∃ v', e = .returned v' ∧ ownsA w' b 5 v' (n + (Lib.decDigits u).length) (xs ++ (Lib.decDigits u).map B) ∧ Below b w w' := by
  by_cases h : u < 100
  · exact auint_small b n u h sv xs w hown hB hlim
  · exact auint_big b n u (by omega) hu64 sv xs w hown hB hlim htab

set_option maxRecDepth 100000 in
set_option maxHeartbeats 8000000 in
theorem aint_in (b n : Nat) (i : Int) (h0 : -9223372036854775808 ≤ i) (h1 : i ≤ 9223372036854775807) (sv : Value) (xs : List Value) (w : World) (hown : ownsA w b 5 sv n xs) (hB : b ≤ w.heap.size) (hlim : n + 21 ≤ 140737488355328)
    (htab : Lib.TabBelow Tryz.prog b w "internal/strconv.uint64pow10" .u64 Lib.pow10Tab) :
    Calls Tryz.prog 140 #[sv, .int .i64 i, .int .i64 10] w fun e w' => ∃ v', e = .returned v' ∧ ownsA w' b 5 v' (n + (Lib.itoa i).length) (xs ++ (Lib.itoa i).map B) ∧ Below b w w' := by
  obtain ⟨i0, hi, hz0, hz1, hz2⟩ := Tryz.infoB2
  by_cases hneg : i < 0
  · obtain ⟨u, rfl⟩ : ∃ u : Nat, i = -(u : Int) := ⟨i.natAbs, by omega⟩
    have hu1 : 1 ≤ u := by omega
    have hu64 : u < 18446744073709551616 := by omega
    have hwr : IntKind.u64.wrap (-IntKind.u64.wrap (-(u : Int))) = (u : Int) := by rw [IntKind.wrap_u64, IntKind.wrap_u64]; omega
    rw [Lib.itoa_neg u hu1]
    go_enter Tryz.func140, Tryz.ntmps140
    go_wp2_with (at_builtin; refine wpList_appendA _ rfl _ _ 72 rfl i0 (.int .u8 0) 1 Tryz.underlying72 hi hz0 hz1 hz2 rfl rfl (ownsA_fr hown ((Fr.refl (fun _ => False) w).alloc _) fun _ _ => id) ⟨w.heap.size, 0, none⟩ 1 1 [Value.int .u8 45] rfl rfl (by intro j u' hj; match j, hj with | 0, hj => simp at hj; subst hj; simp [Addr.add]) (by intro u' hu'; simp at hu'; subst hu'; rfl) (by unfold maxLen; omega) (by omega) (by simp; omega) ?_)
    intro v1 w1 hown1 hgrow
    have hb1 : Below b w w1 := below_grown ((Below.refl b w).alloc hB _) hgrow (by simp; omega) (fun k hk => (ownsA_lt hown k hk).1)
    have htab1 := htab w1 hb1
    have K := auint_any b (n + 1) u hu64 v1 _ w1 hown1 (by have := hb1.size; omega) (by omega) htab1
    go_wp2_with fail
    refine K.mono ?_
    rintro _ w2 ⟨v2, rfl, hown2, hb2⟩
    go_wp2
    go_ret
    refine ⟨v2, rfl, ?_, hb1.trans hb2⟩
    have e1 : n + ((Lib.decDigits u).length + 1) = n + 1 + (Lib.decDigits u).length := by omega
    have e2 : xs ++ (45 :: Lib.decDigits u).map B = xs ++ [Value.int .u8 45] ++ (Lib.decDigits u).map B := by simp [B]
    rw [e2, e1]
    exact hown2
  · obtain ⟨u, rfl⟩ : ∃ u : Nat, i = u := ⟨i.toNat, by omega⟩
    have K := auint_any b n u (by omega) sv xs w hown hB (by omega) htab.here
    rw [Lib.itoa_nonneg]
    go_enter Tryz.func140, Tryz.ntmps140
    go_wp2_with fail
    refine K.mono ?_
    rintro _ w2 ⟨v2, rfl, hown2, hb2⟩
    go_wp2
    go_ret
    exact ⟨v2, rfl, hown2, hb2⟩

set_option maxRecDepth 100000 in
theorem aint_any (b n : Nat) (i : Int) (h0 : -9223372036854775808 ≤ i) (h1 : i ≤ 9223372036854775807) (sv : Value) (xs : List Value) (w : World) (hown : ownsA w b 5 sv n xs) (hB : b ≤ w.heap.size) (hlim : n + 21 ≤ 140737488355328)
    (htab : Lib.TabBelow Tryz.prog b w "internal/strconv.uint64pow10" .u64 Lib.pow10Tab) :
    Calls Tryz.prog 109 #[sv, .int .i64 i, .int .i64 10] w fun e w' => ∃ v', e = .returned v' ∧ ownsA w' b 5 v' (n + (Lib.itoa i).length) (xs ++ (Lib.itoa i).map B) ∧ Below b w w' := by
  have K := aint_in b n i h0 h1 sv xs w hown hB hlim htab
  go_enter Tryz.func109, Tryz.ntmps109
  go_wp2_with fail
  refine K.mono ?_
  rintro _ w2 ⟨v2, rfl, hown2, hb2⟩
  go_wp2_with fail
  go_ret
  exact ⟨v2, rfl, hown2, hb2⟩
end Go.Proofs.YtkkohdmneognlaaGreatDoor
/- The contract of row: a word, and numbers behind it, as one text. -/
namespace Go.Proofs.YtkkohdmneognlaaGreatDoor
open Go.RowKit

/-- the numbers behind a word -/
def numsM : List Int → List UInt8
  | [] => []
  | n :: r => (32 :: Lib.itoa n) ++ numsM r
def rowM (wd : List UInt8) (l : List Int) : List UInt8 := wd ++ numsM l
def In64 (l : List Int) : Prop := ∀ n ∈ l, -9223372036854775808 ≤ n ∧ n ≤ 9223372036854775807
theorem numsM_append : ∀ (a b : List Int), numsM (a ++ b) = numsM a ++ numsM b
  | [], b => rfl
  | n :: r, b => by rw [List.cons_append, numsM, numsM, numsM_append r b, List.append_assoc]
theorem numsM_length : ∀ (l : List Int), In64 l → (numsM l).length ≤ l.length * 22
  | [], _ => Nat.le_refl _
  | n :: r, h => by
    have ih := numsM_length r fun x hx => h x (List.mem_cons_of_mem _ hx)
    have k := Lib.itoa_length_le n (h n List.mem_cons_self).1 (h n List.mem_cons_self).2
    rw [numsM, List.length_append, List.length_cons, List.length_cons]
    omega
abbrev Pow (w : World) : Prop := Lib.TabIs Tryz.prog w "internal/strconv.uint64pow10" .u64 Lib.pow10Tab
theorem Pow.fr {w w1 : World} (h : Pow w) (f : Fr (fun _ => False) w w1) : Pow w1 := ((Lib.tabBelow_of_tabIs h).on f.toBelow0).here
theorem Pow.below {w w1 : World} (h : Pow w) (f : Fr (fun _ => False) w w1) : Lib.TabBelow Tryz.prog w.heap.size w1 "internal/strconv.uint64pow10" .u64 Lib.pow10Tab := (Lib.tabBelow_of_tabIs h).on f.toBelow0
theorem fr_below {w w1 w2 : World} (f : Fr (fun _ => False) w w1) (h : Below w.heap.size w1 w2) : Fr (fun _ => False) w w2 :=
  Fr.ofBelow (f.toBelow0.trans h)

set_option maxRecDepth 100000 in
set_option maxHeartbeats 8000000 in
theorem row_any (wd : ByteArray) {A : Option Addr} {c : Nat} (l : List Int) (w : World) (h : Rd w A (l.map (Value.int .i64))) (hP : Pow w) (h64 : In64 l) (hw : wd.size ≤ 4096) (hl : l.length ≤ 2199023255552) :
    Calls Tryz.prog 66 #[.string wd, .slice A l.length c] w fun e w' => e = .returned (.string ⟨(rowM (bytesOf wd) l).toArray⟩) ∧ Fr (fun _ => False) w w' := by
  obtain ⟨i0, hi, hz0, hz1, hz2⟩ := Tryz.infoB2
  obtain ⟨v0, W0, hrun, hown0, hfr0⟩ : ∃ v0 W0, (convert 9 72 (.string wd)).run Tryz.prog w = .ok v0 W0 ∧ ownsA W0 w.heap.size 5 v0 wd.size ((bytesOf wd).map B) ∧ Fr (fun _ => False) w W0 :=
    ⟨_, _, run_bytes_of_string (P := Tryz.prog) w 9 72 5 wd Tryz.underlying9 Tryz.underlying72 Tryz.underlying5,
      ownsA_bytes w.drew wd w.heap.size (grownCap w wd.size 0 5) 5 (Nat.le_refl _) (grownCap_ge w wd.size 0 5) (grownCap_le_maxLen w wd.size 0 _ (by unfold maxLen; omega)), (Fr.refl _ _).drew.alloc _⟩
  have hnl := numsM_length l h64
  have hbl : (bytesOf wd).length = wd.size := bytesOf_length wd
  go_enter Tryz.func66, Tryz.ntmps66
  go_wp2_with fail
  clear hrun
  go_loopw [5, 12] (fun v5 v12 wr => ∃ k : Nat, k ≤ l.length ∧ v12 = .int .i64 (k : Nat) ∧ ownsA wr w.heap.size 5 v5 (rowM (bytesOf wd) (l.take k)).length ((rowM (bytesOf wd) (l.take k)).map B) ∧ Fr (fun _ => False) w wr) (fun _ i _ => l.length - (intOf i).toNat)
  case atStart => exact ⟨0, Nat.zero_le _, rfl, by simpa [rowM, numsM, hbl] using hown0, hfr0⟩
  case round =>
    clear hown0 hfr0
    obtain ⟨k, hk, rfl, hown, fr⟩ := hrel
    have hlen : (rowM (bytesOf wd) (l.take k)).length ≤ 4096 + 2199023255552 * 22 := by
      have := numsM_length (l.take k) fun x hx => h64 x (List.mem_of_mem_take hx)
      rw [List.length_take] at this
      unfold rowM
      rw [List.length_append]
      have := Nat.min_le_right k l.length
      omega
    by_cases hlt : k < l.length
    · obtain ⟨g, o, ha, q0⟩ := rd_int (h.fr fr fun _ _ => id) hlt
      have hs : rowM (bytesOf wd) (l.take (k + 1)) = rowM (bytesOf wd) (l.take k) ++ (32 :: Lib.itoa l[k]) := by
        rw [List.take_succ_eq_append_getElem hlt]
        unfold rowM
        rw [numsM_append, List.append_assoc]
        simp [numsM]
      have HS := Lib.hid hs
      clear hs
      have hx := h64 _ (List.getElem_mem hlt)
      generalize l[k] = x at *
      generalize rowM (bytesOf wd) (l.take k) = R at *
      obtain ⟨hx0, hx1⟩ := hx
      rw [ha]
      have HA := Lib.hid ha
      clear ha
      have hownw := ownsA_fr hown ((Fr.refl (fun _ => False) wr).alloc (.cells #[.int .u8 32] 5)) fun _ _ => id
      have hsz := fr.size
      go_wp2_with (at_builtin; refine wpList_appendA _ rfl _ _ 72 rfl i0 (.int .u8 0) 1 Tryz.underlying72 hi hz0 hz1 hz2 rfl rfl hownw ⟨wr.heap.size, 0, none⟩ 1 1 [Value.int .u8 32] rfl rfl (by intro j u' hj; match j, hj with | 0, hj => simp at hj; subst hj; simp [Addr.add]) (by intro u' hu'; simp at hu'; subst hu'; rfl) (by unfold maxLen; omega) (by omega) (by simp; omega) ?_)
      intro v1 w1 hown1 hgrow
      have f1 : Fr (fun _ => False) w w1 := ownsA_step (fr.alloc _) hownw hgrow
      have K := aint_any w.heap.size (R.length + 1) x hx0 hx1 v1 _ w1 hown1 f1.size (by omega) (hP.below f1)
      clear hown hownw hgrow
      go_wp2_with fail
      refine K.mono ?_
      rintro _ w2 ⟨v2, rfl, hown2, hb2⟩
      go_wp2_with fail
      go_roundw
      case rel =>
        refine ⟨k + 1, by omega, by go_num, ?_, fr_below f1 hb2⟩
        rw [HS.out]
        have e1 : (R ++ 32 :: Lib.itoa x).length = R.length + 1 + (Lib.itoa x).length := by simp; omega
        have e2 : (R ++ 32 :: Lib.itoa x).map B = R.map B ++ [Value.int .u8 32] ++ (Lib.itoa x).map B := by simp [B]
        rw [e1, e2]
        exact hown2
      case measure => simp [intOf]; omega
    · obtain rfl : k = l.length := by omega
      rw [List.take_length] at hown
      have htx := ownsA_text (P := Tryz.prog) (src := 72) (dst := 9) hown Tryz.underlying72 Tryz.underlying5 Tryz.underlying9
      go_wp2_with fail
      go_ret
      exact ⟨rfl, fr⟩
end Go.Proofs.YtkkohdmneognlaaGreatDoor
/- The contracts of stepNumbers and needNumbers. -/
namespace Go.Proofs.YtkkohdmneognlaaGreatDoor
open Go.RowKit

def stepsL : List St → List Int
  | [] => []
  | v :: r => [v.sec, v.inn, v.out] ++ stepsL r
theorem stepsL_append : ∀ (a b : List St), stepsL (a ++ b) = stepsL a ++ stepsL b
  | [], _ => rfl
  | v :: r, b => by rw [List.cons_append, stepsL, stepsL, stepsL_append r b, List.append_assoc]
theorem stepsL_length : ∀ (l : List St), (stepsL l).length = l.length * 3
  | [] => rfl
  | v :: r => by
    rw [stepsL, List.length_append, stepsL_length r, List.length_cons]
    simp only [List.length_cons, List.length_nil]
    omega
set_option maxHeartbeats 4000000 in
theorem stepsL_any {A : Option Addr} {c : Nat} (l : List St) (w : World) (h : Rd w A (cellsT l)) (hb : l.length * 24 ≤ 140737488351232) :
    Calls Tryz.prog 68 #[.slice A l.length c] w (Nums w (stepsL l)) := by
  obtain ⟨i0, hi0, hz0, hz1, hz2⟩ := info_parts Tryz.infoI
  go_enter Tryz.func68, Tryz.ntmps68
  go_wp2_with fail
  go_loopw [3, 8] (fun v3 v8 wr => ∃ (i : Nat) (L : List Int) (B : Option Addr) (d : Nat), i ≤ l.length ∧ v8 = .int .i64 (i : Nat) ∧ v3 = .slice B L.length d ∧ L = stepsL (l.take i) ∧
      wr.ownsRow w.heap.size 3 1 (.slice B L.length d) L.length (L.map (Value.int .i64)) ∧ Fr (fun _ => False) w wr)
    (fun _ i _ => l.length - (intOf i).toNat)
  case atStart => exact ⟨0, [], none, 0, Nat.zero_le _, rfl, rfl, rfl, World.ownsRow_nil _ _ _ _, Fr.refl _ _⟩
  case round =>
    obtain ⟨i, L, B, d, hi, rfl, rfl, hL, hown, F⟩ := hrel
    have hLl : L.length = i * 3 := by rw [hL, stepsL_length, List.length_take]; omega
    by_cases hlp : i < l.length
    · obtain ⟨ga, oa, ha, q0, q1, q2⟩ := rd_st (h.fr F fun _ _ => id) hlp
      have hts : stepsL (l.take (i + 1)) = L ++ [l[i].sec, l[i].inn, l[i].out] := by
        rw [List.take_succ_eq_append_getElem hlp, stepsL_append, ← hL]
        simp [stepsL]
      have HTS := Lib.hid hts
      have hLn : (L.length + 3) * 8 ≤ 140737488355328 := by omega
      clear hts hL hLl
      generalize l[i] = v at *
      have hlo := World.ownsRow.lt hown
      rw [ha]
      have HA := Lib.hid ha
      clear ha
      go_wp2_with (at_builtin; refine wpList_append_wide _ rfl (.tmp 12) (.tmp 19) 25 rfl w.heap.size 3 i0 _ 1 8 Tryz.underlying25 hi0 hz0 hz1 hz2 rfl (by decide) (.slice B L.length d) L.length (L.map (Value.int .i64)) rfl ((hown.alloc _).alloc _) (some ⟨wr.heap.size + 1, 0, none⟩) 3 3 [.int .i64 v.sec, .int .i64 v.inn, .int .i64 v.out] rfl rfl (lit_rd_at (by simp) _ _) (by simp [Value.oneCell']) (by unfold maxLen; omega) (by omega) (Nat.le_trans F.size (by simp; omega)) ?_; intro v6 w6 hown6 hg6 hat6; obtain ⟨A6, c6, rfl, _, _, _, _⟩ := wide_form hown6)
      have F6 := ((F.alloc (.cells #[.int .i64 v.sec, .int .i64 v.inn, .int .i64 v.out] 45)).alloc (.cells #[.int .i64 v.sec, .int .i64 v.inn, .int .i64 v.out] 3)).grown hg6 fun j hj => .inr (hlo j hj).1
      clear hg6 hat6 hlo q0 q1 q2
      go_wp2_with fail
      go_roundw
      case rel => exact ⟨i + 1, L ++ [v.sec, v.inn, v.out], A6, c6, by omega, by go_num, by rw [List.length_append]; rfl, HTS.out.symm, by rw [List.length_append, List.map_append]; exact hown6, F6⟩
      case measure => simp [intOf]; omega
    · obtain rfl : i = l.length := by omega
      rw [List.take_length] at hL
      subst hL
      go_wp2_with fail
      go_ret
      exact ⟨B, d, rfl, hown, F⟩

def needsL : List Nd → List Int
  | [] => []
  | v :: r => [v.sec, v.pos] ++ needsL r
theorem needsL_append : ∀ (a b : List Nd), needsL (a ++ b) = needsL a ++ needsL b
  | [], _ => rfl
  | v :: r, b => by rw [List.cons_append, needsL, needsL, needsL_append r b, List.append_assoc]
theorem needsL_length : ∀ (l : List Nd), (needsL l).length = l.length * 2
  | [] => rfl
  | v :: r => by
    rw [needsL, List.length_append, needsL_length r, List.length_cons]
    simp only [List.length_cons, List.length_nil]
    omega
set_option maxHeartbeats 4000000 in
theorem needsL_any {A : Option Addr} {c : Nat} (l : List Nd) (w : World) (h : Rd w A (cellsN l)) (hb : l.length * 16 ≤ 140737488351232) :
    Calls Tryz.prog 69 #[.slice A l.length c] w (Nums w (needsL l)) := by
  obtain ⟨i0, hi0, hz0, hz1, hz2⟩ := info_parts Tryz.infoI
  go_enter Tryz.func69, Tryz.ntmps69
  go_wp2_with fail
  go_loopw [3, 8] (fun v3 v8 wr => ∃ (i : Nat) (L : List Int) (B : Option Addr) (d : Nat), i ≤ l.length ∧ v8 = .int .i64 (i : Nat) ∧ v3 = .slice B L.length d ∧ L = needsL (l.take i) ∧
      wr.ownsRow w.heap.size 3 1 (.slice B L.length d) L.length (L.map (Value.int .i64)) ∧ Fr (fun _ => False) w wr)
    (fun _ i _ => l.length - (intOf i).toNat)
  case atStart => exact ⟨0, [], none, 0, Nat.zero_le _, rfl, rfl, rfl, World.ownsRow_nil _ _ _ _, Fr.refl _ _⟩
  case round =>
    obtain ⟨i, L, B, d, hi, rfl, rfl, hL, hown, F⟩ := hrel
    have hLl : L.length = i * 2 := by rw [hL, needsL_length, List.length_take]; omega
    by_cases hlp : i < l.length
    · obtain ⟨ga, oa, ha, q0, q1⟩ := rd_nd (h.fr F fun _ _ => id) hlp
      have hts : needsL (l.take (i + 1)) = L ++ [l[i].sec, l[i].pos] := by
        rw [List.take_succ_eq_append_getElem hlp, needsL_append, ← hL]
        simp [needsL]
      have HTS := Lib.hid hts
      have hLn : (L.length + 2) * 8 ≤ 140737488355328 := by omega
      clear hts hL hLl
      generalize l[i] = v at *
      have hlo := World.ownsRow.lt hown
      rw [ha]
      have HA := Lib.hid ha
      clear ha
      go_wp2_with (at_builtin; refine wpList_append_wide _ rfl (.tmp 12) (.tmp 17) 25 rfl w.heap.size 3 i0 _ 1 8 Tryz.underlying25 hi0 hz0 hz1 hz2 rfl (by decide) (.slice B L.length d) L.length (L.map (Value.int .i64)) rfl ((hown.alloc _).alloc _) (some ⟨wr.heap.size + 1, 0, none⟩) 2 2 [.int .i64 v.sec, .int .i64 v.pos] rfl rfl (lit_rd_at (by simp) _ _) (by simp [Value.oneCell']) (by unfold maxLen; omega) (by omega) (Nat.le_trans F.size (by simp; omega)) ?_; intro v6 w6 hown6 hg6 hat6; obtain ⟨A6, c6, rfl, _, _, _, _⟩ := wide_form hown6)
      have F6 := ((F.alloc (.cells #[.int .i64 v.sec, .int .i64 v.pos] 67)).alloc (.cells #[.int .i64 v.sec, .int .i64 v.pos] 3)).grown hg6 fun j hj => .inr (hlo j hj).1
      clear hg6 hat6 hlo q0 q1
      go_wp2_with fail
      go_roundw
      case rel => exact ⟨i + 1, L ++ [v.sec, v.pos], A6, c6, by omega, by go_num, by rw [List.length_append]; rfl, HTS.out.symm, by rw [List.length_append, List.map_append]; exact hown6, F6⟩
      case measure => simp [intOf]; omega
    · obtain rfl : i = l.length := by omega
      rw [List.take_length] at hL
      subst hL
      go_wp2_with fail
      go_ret
      exact ⟨B, d, rfl, hown, F⟩
end Go.Proofs.YtkkohdmneognlaaGreatDoor
/- strings.Builder's methods at a builder that is a sheet's embedded one. -/
namespace Go.Proofs.YtkkohdmneognlaaGreatDoor
open Go.RowKit

abbrev Sheet (q b : Nat) (bs : List UInt8) (w : World) : Prop := Lib.IsBuilder 100 5 q b (Lib.byteCells bs) w
abbrev SheetAt (q b : Nat) (p : Value) (bs : List UInt8) (w : World) : Prop := Lib.BuilderAt 100 5 q b p (Lib.byteCells bs) w
theorem Tryz.sizeBu : ∃ j : TypeInfo, Tryz.prog.info? 98 = some j ∧ j.size = 2 := by
  have h : (Tryz.prog.info? 98).map (·.size) = some 2 := by kernel_rfl
  obtain ⟨j, hj, h2⟩ := Option.map_eq_some_iff.1 h
  exact ⟨j, hj, h2⟩
theorem Tryz.liesBu : liesAt Tryz.prog Tryz.prog.depth 100 (2 / Tryz.prog.cellsOf 100) 0 98 1 = true := by kernel_rfl
theorem SheetAt.shape {q b : Nat} {p : Value} {bs : List UInt8} {w : World} (h : SheetAt q b p bs w) : w.shape? b = some (100, 2) := by
  obtain ⟨_, v, hb, _⟩ := h
  simp [World.shape?, hb]

/-- blocks that hold no bytes are kept, but one -/
def Kp (b : Nat) (w w1 : World) : Prop := ∀ k t cs fz, k ≠ b → t ≠ 5 → w.heap[k]? = some (.cells cs t fz) → w1.heap[k]? = some (.cells cs t fz)
theorem Kp.refl (b : Nat) (w : World) : Kp b w w := fun _ _ _ _ _ _ h => h
theorem Kp.trans {b : Nat} {w w1 w2 : World} (h : Kp b w w1) (h' : Kp b w1 w2) : Kp b w w2 := fun k t cs fz hk ht hh => h' k t cs fz hk ht (h k t cs fz hk ht hh)
theorem Kp.fr {b : Nat} {w w1 : World} (f : Fr (fun _ => False) w w1) : Kp b w w1 := fun k _ _ _ _ _ hh => (f.block k (lt_of_block hh) id).trans hh
theorem Kp.setCell (b i : Nat) (w : World) (v : Value) : Kp b w (w.setCell ⟨b, i, none⟩ v) := fun k _ _ _ hk _ hh => (Below.heap_setCell w ⟨b, i, none⟩ v k hk).trans hh
theorem Kp.grown {b q n : Nat} {v : Value} {xs : List Value} {w w1 : World} (ho : w.ownsRow q 5 1 v n xs) (hg : w.grownBy w1 v.ownBlock) : Kp b w w1 := fun k t cs fz _ ht hh => by
  rw [hg.block k (lt_of_block hh) ?_]
  · exact hh
  · intro e
    rcases ho.2 with ⟨hv, _⟩ | ⟨g, cap, cur, hv, _, hgg, _⟩
    · rw [hv] at e; cases e
    · rw [hv] at e
      obtain rfl : k = g := by simpa [Value.ownBlock] using e
      rw [hgg] at hh
      injection hh with hh
      injection hh with _ h2 _
      exact ht h2.symm

set_option maxRecDepth 100000 in
set_option maxHeartbeats 4000000 in
theorem cc_any (q b : Nat) (bs : List UInt8) (w : World) (h : Sheet q b bs w) :
    Calls Tryz.prog 138 #[.pointer (some ⟨b, 0, none⟩)] w fun e w' => e = .returned (.tuple #[]) ∧ SheetAt q b (.pointer (some ⟨b, 0, none⟩)) bs w' ∧ Below q w w' ∧ Kp b w w' := by
  obtain ⟨j, hj, hj2⟩ := Tryz.sizeBu
  rcases h with h | h
  · have h0 := h.cell0
    have hsh := SheetAt.shape h
    have hfz := h.frozen0
    go_enter Tryz.func138, Tryz.ntmps138
    go_wp2
    rw [Lib.run_to_unsafe w ⟨b, 0, none⟩ Tryz.underlying96 Tryz.underlying187 hj (by rw [hj2]; decide) hsh (Nat.zero_lt_succ 1)]
    simp only [Result.andThen]
    rw [Oper.upon_value]
    go_wp2
    rw [run_callFunc_extern Tryz.func156 (by kernel_rfl) (by kernel_rfl) (by kernel_rfl) (e := Extern.AbiNoEscape.same) (by kernel_rfl)]
    rw [Lib.run_noEscape]
    simp only [Result.andThen]
    rw [Oper.upon_value]
    go_wp2
    rw [Lib.run_from_unsafe w ⟨b, 0, none⟩ Tryz.underlying187 Tryz.underlying96 hj hsh Tryz.liesBu]
    simp only [Result.andThen]
    rw [Oper.upon_value]
    go_wp2
    go_end0
    exact ⟨rfl, h.used _, (Below.refl q w).setCell (p := ⟨b, 0, none⟩) h.1 _, Kp.setCell b 0 _ _⟩
  · have h0 := h.cell0
    go_enter Tryz.func138, Tryz.ntmps138
    go_wp2
    rw [Lib.run_neq_ptr_same w _ Tryz.underlying96 hj]
    go_wp2
    go_end0
    exact ⟨rfl, h, Below.refl q _, Kp.refl b _⟩

set_option maxRecDepth 100000 in
set_option maxHeartbeats 4000000 in
theorem ws_any (q b : Nat) (bs : List UInt8) (s : ByteArray) (w : World) (h : Sheet q b bs w) (hlen : bs.length + s.size ≤ 140737488355328) (hq : q ≤ w.heap.size) :
    Calls Tryz.prog 106 #[.pointer (some ⟨b, 0, none⟩), .string s] w fun e w' => e = .returned (.tuple #[.int .i64 s.size, .nilIface]) ∧ SheetAt q b (.pointer (some ⟨b, 0, none⟩)) (bs ++ bytesOf s) w' ∧ Below q w w' ∧ Kp b w w' := by
  obtain ⟨i0, hi, hz0, hz1, hz2⟩ := Tryz.infoB2
  have K := cc_any q b bs w h
  go_enter Tryz.func106, Tryz.ntmps106
  go_wp2_with fail
  refine K.mono ?_
  rintro e w1 ⟨rfl, h1, hb1, hk1⟩
  obtain ⟨hB, v, hbk, hown, hne⟩ := h1
  rw [Lib.byteCells_length] at hown
  have c0 : w1.cell? ⟨b, 0, none⟩ = some (.pointer (some ⟨b, 0, none⟩)) := by rw [Lib.cell_of_heap hbk]; rfl
  have c1 : w1.cell? ⟨b, 1, none⟩ = some v := by rw [Lib.cell_of_heap hbk]; rfl
  go_wp2_with (at_builtin; refine Lib.wpList_append_own_string _ rfl _ _ 72 9 rfl q 5 i0 Tryz.underlying72 Tryz.underlying9 hi hz0 hz1 hz2 _ _ _ rfl hown s rfl ?c3 ?c4 ?c5 ?_)
  case c3 => unfold maxLen; omega
  case c4 => omega
  case c5 => have := hb1.size; omega
  intro v' w2 hown' hgrow _
  have hlt : b < w1.heap.size := lt_of_block hbk
  have hb2 : w2.heap[b]? = some (.cells #[.pointer (some ⟨b, 0, none⟩), v] 100 (0, 0)) := by
    rw [hgrow.block b hlt (fun e => hne e.symm)]
    exact hbk
  have d0 : w2.cell? ⟨b, 0, none⟩ = some (.pointer (some ⟨b, 0, none⟩)) := by rw [Lib.cell_of_heap hb2]; rfl
  have d1 : w2.cell? ⟨b, 1, none⟩ = some v := by rw [Lib.cell_of_heap hb2]; rfl
  have f1 : w2.frozen? ⟨b, 1, none⟩ = false := Lib.frozen_of_heap hb2 1
  obtain ⟨ao, n', cap, rfl⟩ : ∃ ao n' cap, v' = .slice ao n' cap := by
    rcases hown'.2 with ⟨hv, _⟩ | ⟨g, cap, cur, hv, _⟩
    · exact ⟨_, _, _, hv⟩
    · exact ⟨_, _, _, hv⟩
  go_wp2
  go_ret2
  refine ⟨rfl, ?_, (hb1.grown hgrow (by have := hb1.size; omega) (fun k hk => (hown.lt k hk).1)).setCell (p := ⟨b, 1, none⟩) hB _, (hk1.trans (Kp.grown hown hgrow)).trans (Kp.setCell b 1 _ _)⟩
  exact Lib.BuilderAt.put (T := 100) (e := 5) hB hb2 (bs' := Lib.byteCells (bs ++ bytesOf s)) (by
    have e1 : (Lib.byteCells (bs ++ bytesOf s)).length = bs.length + s.size := by rw [Lib.byteCells_length, List.length_append, bytesOf_length]
    have e2 : Lib.byteCells (bs ++ bytesOf s) = Lib.byteCells bs ++ Lib.strCells s := by simp [Lib.byteCells, Lib.strCells, bytesOf]
    rw [e1, e2]
    exact hown') (by decide)

set_option maxRecDepth 100000 in
set_option maxHeartbeats 4000000 in
theorem wb_any (q b : Nat) (bs : List UInt8) (c : UInt8) (w : World) (h : Sheet q b bs w) (hlen : bs.length + 1 ≤ 140737488355328) (hq : q ≤ w.heap.size) :
    Calls Tryz.prog 108 #[.pointer (some ⟨b, 0, none⟩), .int .u8 c.toNat] w fun e w' => e = .returned .nilIface ∧ SheetAt q b (.pointer (some ⟨b, 0, none⟩)) (bs ++ [c]) w' ∧ Below q w w' ∧ Kp b w w' := by
  obtain ⟨i0, hi, hz0, hz1, hz2⟩ := Tryz.infoB2
  have K := cc_any q b bs w h
  go_enter Tryz.func108, Tryz.ntmps108
  go_wp2_with fail
  refine K.mono ?_
  rintro e w1 ⟨rfl, h1, hb1, hk1⟩
  obtain ⟨hB, v, hbk, hown, hne⟩ := h1
  rw [Lib.byteCells_length] at hown
  have c0 : w1.cell? ⟨b, 0, none⟩ = some (.pointer (some ⟨b, 0, none⟩)) := by rw [Lib.cell_of_heap hbk]; rfl
  have c1 : w1.cell? ⟨b, 1, none⟩ = some v := by rw [Lib.cell_of_heap hbk]; rfl
  go_wp2_with (at_builtin; refine wpList_append_own _ rfl _ _ 72 rfl q 5 i0 (.int .u8 0) 1 1 Tryz.underlying72 hi hz0 hz1 hz2 rfl (by decide) _ _ _ rfl (hown.alloc _) ⟨w1.heap.size, 0, none⟩ 1 1 [.int .u8 c.toNat] rfl rfl ?c1 ?c2 ?c3 ?c4 ?c5 ?_)
  case c1 =>
    intro j u hj
    match j, hj with
    | 0, hj => simp at hj; subst hj; simp [Addr.add]
  case c2 => intro u hu; simp at hu; subst hu; rfl
  case c3 => unfold maxLen; omega
  case c4 => omega
  case c5 => have := hb1.size; simp; omega
  intro v' w2 hown' hgrow _
  have hlt : b < w1.heap.size := lt_of_block hbk
  have hb2 : w2.heap[b]? = some (.cells #[.pointer (some ⟨b, 0, none⟩), v] 100 (0, 0)) := by
    rw [hgrow.block b (by simp; omega) (fun e => hne e.symm), Lib.alloc_old w1 _ b hlt]
    exact hbk
  have d0 : w2.cell? ⟨b, 0, none⟩ = some (.pointer (some ⟨b, 0, none⟩)) := by rw [Lib.cell_of_heap hb2]; rfl
  have d1 : w2.cell? ⟨b, 1, none⟩ = some v := by rw [Lib.cell_of_heap hb2]; rfl
  have f1 : w2.frozen? ⟨b, 1, none⟩ = false := Lib.frozen_of_heap hb2 1
  obtain ⟨g, cap, rfl⟩ : ∃ g cap, v' = .slice (some ⟨g, 0, none⟩) (bs.length + 1) cap := by
    rcases hown'.2 with ⟨_, h0⟩ | ⟨g, cap, cur, hv, _⟩
    · omega
    · exact ⟨g, cap, hv⟩
  go_wp2
  go_ret
  refine ⟨rfl, ?_, ((hb1.alloc (by have := hb1.size; omega) _).grown hgrow (by have := hb1.size; simp; omega) (fun k hk => (hown.lt k hk).1)).setCell (p := ⟨b, 1, none⟩) hB _, ((hk1.trans (Kp.fr ((Fr.refl _ _).alloc _))).trans (Kp.grown (hown.alloc _) hgrow)).trans (Kp.setCell b 1 _ _)⟩
  exact Lib.BuilderAt.put (T := 100) (e := 5) hB hb2 (bs' := Lib.byteCells (bs ++ [c])) (by
    have e1 : (Lib.byteCells (bs ++ [c])).length = bs.length + 1 := by rw [Lib.byteCells_length, List.length_append]; rfl
    have e2 : Lib.byteCells (bs ++ [c]) = Lib.byteCells bs ++ [.int .u8 c.toNat] := by simp [Lib.byteCells]
    rw [e1, e2]
    exact hown') (by decide)

set_option maxRecDepth 100000 in
set_option maxHeartbeats 4000000 in
theorem str_any (q b : Nat) (l : List UInt8) (w : World) (h : Sheet q b l w) (h0 : l ≠ []) :
    Calls Tryz.prog 70 #[.pointer (some ⟨b, 0, none⟩)] w fun e w' => e = .returned (.string ⟨l.toArray⟩) ∧ Below q w w' := by
  obtain ⟨p, hB, v, hbk, hown, hne⟩ : ∃ p, SheetAt q b p l w := by
    rcases h with h | h
    · exact ⟨_, h⟩
    · exact ⟨_, h⟩
  have hl0 : l.length ≠ 0 := by simpa using h0
  rw [Lib.byteCells_length] at hown
  obtain ⟨g, cap, cur, rfl, hbg, hg, hnc, hcm, hcs, htake⟩ : ∃ g cap cur, v = .slice (some ⟨g, 0, none⟩) l.length cap ∧ q ≤ g ∧ w.heap[g]? = some (.cells cur 5 (0, 0)) ∧ l.length ≤ cap ∧ cap ≤ maxLen ∧ cur.size = cap * 1 ∧ cur.toList.take (l.length * 1) = Lib.byteCells l := by
    rcases hown.2 with ⟨_, hz⟩ | ⟨g, cap, cur, hv, r⟩
    · exact absurd hz hl0
    · exact ⟨g, cap, cur, hv, r⟩
  have c1 : w.drew.cell? ⟨b, 1, none⟩ = some (.slice (some ⟨g, 0, none⟩) l.length cap) := by
    have : w.drew.heap[b]? = some (.cells #[p, .slice (some ⟨g, 0, none⟩) l.length cap] 100 (0, 0)) := hbk
    rw [Lib.cell_of_heap this]; rfl
  have hSD : (Builtin.unsafeSliceData_ #[72] 150 #[.slice (some ⟨g, 0, none⟩) l.length cap]).run Tryz.prog w.drew = .ok (.pointer (some ⟨g, 0, none⟩)) w.drew :=
    Lib.run_unsafeSliceData_row _ _ _ _ _ _ (by omega)
  have hUS : (Builtin.unsafeString_ #[150, 3] 9 #[.pointer (some ⟨g, 0, none⟩), .int .i64 l.length]).run Tryz.prog w.drew = .ok (.string ⟨l.toArray⟩) (w.drew.freeze ⟨g, 0, none⟩ l.length) := by
    refine Lib.run_unsafeString_row w.drew 150 3 9 5 Tryz.underlying150 (by kernel_rfl) g cur.size (by have hg' : w.drew.heap[g]? = some (.cells cur 5 (0, 0)) := hg; simp [World.shape?, hg']) l h0 (by omega) (by unfold maxLen at hcm; omega) ?_
    intro j x hx
    have := hown.cells (g := g) rfl j (.int .u8 x.toNat) (by simp [Lib.byteCells, hx])
    exact this
  have mixed : Tryz.prog.follows Departure.mixedOrders = true := by kernel_rfl
  go_enter Tryz.func70, Tryz.ntmps70
  go_wp2
  go_region_o
  all_goals (go_wp2; go_ret; exact ⟨rfl, Lib.below_freeze (Below.drew (Below.refl q w)) (p := ⟨g, 0, none⟩) hbg _⟩)
end Go.Proofs.YtkkohdmneognlaaGreatDoor
/- The contract of sheet.line. -/
namespace Go.Proofs.YtkkohdmneognlaaGreatDoor
open Go.RowKit

/-- rows, a blank between them -/
def joinM : List (List UInt8) → List UInt8
  | [] => []
  | [x] => x
  | x :: y :: r => x ++ 32 :: joinM (y :: r)
theorem joinM_eq : ∀ (xs : List (List UInt8)), Lib.join xs [32] = joinM xs
  | [] => rfl
  | [x] => by simp [Lib.join, joinM]
  | x :: y :: r => by
    have ih := joinM_eq (y :: r)
    unfold Lib.join at ih ⊢
    rw [joinM, ← ih, List.intercalate_cons_cons]
    simp
theorem SheetAt.fr {q b : Nat} {p : Value} {bs : List UInt8} {w w1 : World} (h : SheetAt q b p bs w) (f : Fr (fun _ => False) w w1) : SheetAt q b p bs w1 := by
  obtain ⟨hB, v, hb, hown, hne⟩ := h
  exact ⟨hB, v, (f.block b (lt_of_block hb) id).trans hb, wide_fr hown f (fun _ _ => id), hne⟩
theorem Sheet.fr {q b : Nat} {bs : List UInt8} {w w1 : World} (h : Sheet q b bs w) (f : Fr (fun _ => False) w w1) : Sheet q b bs w1 := by
  rcases h with h | h
  · exact .inl (SheetAt.fr h f)
  · exact .inr (SheetAt.fr h f)
theorem Tryz.nz100 : ∃ j : TypeInfo, Tryz.prog.info? 100 = some j := by
  have h : (Tryz.prog.info? 100).isSome = true := by kernel_rfl
  exact Option.isSome_iff_exists.1 h

set_option maxRecDepth 100000 in
set_option maxHeartbeats 8000000 in
theorem line_any (q b bk c : Nat) (bs : List UInt8) (rows : List (List UInt8)) (w : World) (h : Sheet q b bs w) (hq : q ≤ w.heap.size) (hr : ∀ j x, rows[j]? = some x → w.cell? ⟨bk, j, none⟩ = some (.string ⟨x.toArray⟩)) (hbk : bk < w.heap.size) (hc : rows.length ≤ c) (hn : rows.length ≤ 4096) (hl : (joinM rows).length ≤ 17592186044416) (hbs : bs.length ≤ 17592186044416) :
    Calls Tryz.prog 65 #[.pointer (some ⟨b, 0, none⟩), .slice (some ⟨bk, 0, none⟩) rows.length c] w fun e w' => e = .returned (.tuple #[]) ∧ Sheet q b (bs ++ joinM rows ++ [10]) w' ∧ Below q w w' ∧ Kp b w w' := by
  have KJ := fun W (f : Below w.heap.size w W) => Tryz.strings_Join bk 0 c (rows.map fun x => ⟨x.toArray⟩) ⟨#[32]⟩ W (by
      intro j x hx
      rw [List.getElem?_map] at hx
      obtain ⟨y, hy, rfl⟩ := Option.map_eq_some_iff.1 hx
      have k := hr j y hy
      rw [Nat.zero_add, World.cell?_of_block (f.block bk hbk)]
      exact k) (Nat.lt_of_lt_of_le hbk f.size) (by rw [List.length_map]; omega) (by rw [List.length_map]; exact hc) (by
      have e : (rows.map fun x => (⟨x.toArray⟩ : ByteArray)).map (·.data.toList) = rows := by rw [List.map_map]; simp [Function.comp_def]
      rw [e, show (⟨#[32]⟩ : ByteArray).data.toList = [32] from rfl, joinM_eq]
      omega)
  have e1 : ((rows.map fun x => (⟨x.toArray⟩ : ByteArray)).map (·.data.toList)) = rows := by rw [List.map_map]; simp [Function.comp_def]
  rw [e1, show (⟨#[32]⟩ : ByteArray).data.toList = [32] from rfl, joinM_eq, List.length_map] at KJ
  clear e1 hr
  generalize joinM rows = J at *
  have hJs : (⟨J.toArray⟩ : ByteArray).size = J.length := by simp [ByteArray.size]
  have KW := fun W (hW : Sheet q b bs W) (hs : q ≤ W.heap.size) => ws_any q b bs ⟨J.toArray⟩ W hW (by omega) hs
  have KB := fun W (hW : Sheet q b (bs ++ J) W) (hs : q ≤ W.heap.size) => wb_any q b (bs ++ J) 10 W hW (by rw [List.length_append]; omega) hs
  rw [bytesOf_mk] at KW
  obtain ⟨j0, hj0⟩ := Tryz.nz100
  go_enter Tryz.func65, Tryz.ntmps65
  go_upto_region 0 with (fail)
  refine wp_region_held_drew (S := fun _ => True) (by kernel_rfl) trivial (fun hHeld => ?_)
  refine wpAnyH_take (i := 0) (v := ?_) rfl (by kernel_rfl) (by kernel_rfl) (by kernel_rfl) (fun _ _ _ h => h) (Or.inl ⟨by rfl, ?_⟩) (by assumption) ?_
  rotate_left
  · intro Wx hSw
    try dsimp only at hSw
    go_simp
    try with_reducible rfl
  try simp only [Act.put]
  refine wpAnyH_take (i := 1) (v := ?_) rfl (by kernel_rfl) (by kernel_rfl) (by kernel_rfl) (fun _ _ _ h => h) (Or.inl ⟨by rfl, ?_⟩) (by assumption) ?_
  rotate_left
  · intro Wx hSw
    try dsimp only at hSw
    go_simp
    try with_reducible rfl
  try simp only [Act.put]
  refine wpAnyH_take (i := 2) (v := ?_) rfl (by kernel_rfl) (by kernel_rfl) (by kernel_rfl) (fun _ _ _ h => h) (Or.inl ⟨by rfl, ?_⟩) (by assumption) ?_
  rotate_left
  · intro Wx hSw
    try dsimp only at hSw
    go_simp
    try with_reducible rfl
  try simp only [Act.put]
  refine wpAnyH_take (i := 3) (v := ?_) rfl (by kernel_rfl) (by kernel_rfl) (by kernel_rfl) (fun _ _ _ h => h) (Or.inl ⟨by rfl, ?_⟩) (by assumption) ?_
  rotate_left
  · intro Wx hSw
    try dsimp only at hSw
    go_simp
    try with_reducible rfl
  try simp only [Act.put]
  refine wpAnyH_ready (rs := [4]) (by kernel_rfl) (by simp) (AllReadyH.cons rfl (fun K hK => ?_) AllReadyH.nil)
  go_simp
  refine (KJ _ ((Below.refl _ w).drew)).mono ?_
  rintro e w1 ⟨rfl, f1⟩
  have g1 : Fr (fun _ => False) w w1 := (Fr.refl (fun _ => False) w).drew.trans (Fr.ofBelow f1) fun _ _ h => h
  have h1 : Sheet q b bs w1 := Sheet.fr h g1
  go_simp
  refine hK.out _ _ trivial (fun hHeld => ?_)
  clear hK K KJ
  refine wpAnyH_ready (rs := [5]) (by kernel_rfl) (by simp) (AllReadyH.cons rfl (fun K hK => ?_) AllReadyH.nil)
  go_simp
  refine (KW _ h1 (Nat.le_trans hq g1.size)).mono ?_
  rintro e w2 ⟨rfl, h2, f2, k2⟩
  have hq2 : q ≤ w2.heap.size := Nat.le_trans (Nat.le_trans hq g1.size) f2.size
  have F2 : Below q w w2 := (g1.toBelow0.mono hq).trans f2
  go_simp
  refine hK.out _ _ trivial (fun hHeld => ?_)
  clear hK K KW h1
  refine wpAnyH_done (by kernel_rfl) ?_ _
  go_wp2_with fail
  refine (KB _ (.inr h2) hq2).mono ?_
  rintro e w3 ⟨rfl, h3, f3, k3⟩
  go_wp2_with fail
  go_end0
  exact ⟨rfl, .inr h3, F2.trans f3, ((Kp.fr g1).trans k2).trans k3⟩
end Go.Proofs.YtkkohdmneognlaaGreatDoor
/- A station's text, as plain data; what bounds it. -/
namespace Go.Proofs.YtkkohdmneognlaaGreatDoor
open Go.RowKit

def wSec : List UInt8 := [115, 101, 99, 116, 105, 111, 110]
def wJo : List UInt8 := [106, 111, 105, 110, 116]
def wSg : List UInt8 := [115, 105, 103, 110, 97, 108]
def wCr : List UInt8 := [99, 114, 111, 115, 115, 105, 110, 103]
def wRt : List UInt8 := [114, 111, 117, 116, 101]
def wPath : List UInt8 := [112, 97, 116, 104]
def wFlank : List UInt8 := [102, 108, 97, 110, 107]
def wOver : List UInt8 := [111, 118, 101, 114, 108, 97, 112]
def wTm : List UInt8 := [116, 105, 109, 105, 110, 103]
def digitM (b : Bool) : Int := if b = true then 1 else 0
def secT (s : Sec) : List UInt8 := rowM wSec [s.kind, s.oc, s.line] ++ [10]
def joT (j : Jo) : List UInt8 := rowM wJo [j.a, j.ae, j.b, j.be] ++ [10]
def sgT (s : Sg) : List UInt8 := rowM wSg [s.sec, s.fin] ++ [10]
def crT (n : Int) : List UInt8 := rowM wCr [n] ++ [10]
def rtRows (r : Rt) : List (List UInt8) := [rowM wRt [r.entry, r.exit, digitM r.shunt], rowM wPath (stepsL r.path), rowM wFlank (needsL r.flank), rowM wOver r.over]
def rtT (r : Rt) : List UInt8 := joinM (rtRows r) ++ [10]
def tmT (t : Tm) : List UInt8 := rowM wTm [t.age, t.brake, t.hold, t.budget] ++ [10]
def textM (c : Cf) : List UInt8 := c.secs.flatMap secT ++ (c.jos.flatMap joT ++ (c.sigs.flatMap sgT ++ (c.crs.flatMap crT ++ (c.rts.flatMap rtT ++ tmT c.tm))))

/-- every number is one of 64 bits -/
structure Cf64 (c : Cf) : Prop where
  secs : ∀ s ∈ c.secs, In64 [s.kind, s.oc, s.line]
  jos : ∀ j ∈ c.jos, In64 [j.a, j.ae, j.b, j.be]
  sigs : ∀ s ∈ c.sigs, In64 [s.sec, s.fin]
  crs : In64 c.crs
  rts : ∀ r ∈ c.rts, In64 [r.entry, r.exit] ∧ In64 (stepsL r.path) ∧ In64 (needsL r.flank) ∧ In64 r.over
  tm : In64 [c.tm.age, c.tm.brake, c.tm.hold, c.tm.budget]

theorem numsM_le : ∀ (l : List Int), l.length ≤ (numsM l).length
  | [] => Nat.le_refl _
  | n :: r => by
    have ih := numsM_le r
    rw [numsM, List.length_append, List.length_cons, List.length_cons]
    omega
theorem flat_le {α : Type} (f : α → List UInt8) : ∀ (l : List α), (∀ x ∈ l, (f x).length ≤ (l.flatMap f).length) ∧ ∀ k, ((l.take k).flatMap f).length ≤ (l.flatMap f).length
  | [] => ⟨fun _ h => by simp at h, fun k => by simp⟩
  | y :: r => by
    obtain ⟨h1, h2⟩ := flat_le f r
    refine ⟨fun x hx => ?_, fun k => ?_⟩
    · rw [List.flatMap_cons, List.length_append]
      rcases List.mem_cons.1 hx with e | hx
      · subst e; omega
      · have := h1 x hx; omega
    · cases k with
      | zero => simp
      | succ k =>
        have := h2 k
        rw [List.take_succ_cons, List.flatMap_cons, List.flatMap_cons, List.length_append, List.length_append]
        omega
theorem flat_snoc {α : Type} (f : α → List UInt8) (l : List α) (k : Nat) (h : k < l.length) : (l.take (k + 1)).flatMap f = (l.take k).flatMap f ++ f l[k] := by
  rw [List.take_succ_eq_append_getElem h, List.flatMap_append]
  simp
end Go.Proofs.YtkkohdmneognlaaGreatDoor
/- A range over a function whose rounds all go on: the statement's law over frames; a function that leaves with such marks. Nothing here speaks of one program. -/
namespace Go.Proofs.YtkkohdmneognlaaGreatDoor
open Go.RowKit
variable {P : Program}

/-- What a round that goes on leaves as it was. -/
structure Kept (S : Nat → Prop) (W W' : World) : Prop where
  size : W.heap.size ≤ W'.heap.size
  block : ∀ k, k < W.heap.size → S k → W'.heap[k]? = W.heap[k]?
namespace Kept
variable {S T : Nat → Prop} {A B C : World}
theorem refl (S : Nat → Prop) (W : World) : Kept S W W := ⟨Nat.le_refl _, fun _ _ _ => rfl⟩
theorem trans (h : Kept S A B) (k : Kept S B C) : Kept S A C := ⟨Nat.le_trans h.size k.size, fun i hi hs => (k.block i (Nat.lt_of_lt_of_le hi h.size) hs).trans (h.block i hi hs)⟩
theorem mono (h : Kept S A B) (hs : ∀ k, T k → S k) : Kept T A B := ⟨h.size, fun i hi ht => h.block i hi (hs i ht)⟩
theorem ofFr (f : Fr T A B) (hd : ∀ k, S k → ¬ T k) : Kept S A B := ⟨f.size, fun i hi hs => f.block i hi (hd i hs)⟩
theorem putObj (W : World) (l : Nat) (o : Obj) (hl : ¬ S l) : Kept S W (W.putObj l o) := ⟨by simp, fun i _ hs => World.putObj_heap_other (fun e => hl (e ▸ hs))⟩
theorem cell {W W' : World} (h : Kept S W W') {p : Addr} (hp : p.block < W.heap.size) (hs : S p.block) : W'.cell? p = W.cell? p := World.cell?_of_block (h.block p.block hp hs)
theorem is_ {b : Nat} {t : TypeId} {cs : Array Value} (h : Kept S A B) (k : Is A b t cs) (hs : S b) : Is B b t cs := (h.block b k.lt hs).trans k
end Kept
theorem Fr.putObj {S : Nat → Prop} {W : World} {l : Nat} (o : Obj) (hl : S l) : Fr S W (W.putObj l o) :=
  ⟨rfl, rfl, rfl, by simp, fun _ _ hn => World.putObj_heap_other (fun e => hn (e ▸ hl))⟩

/-- An iterator that hands over xs, whatever the rounds do but with T; S: what it turns itself. -/
def SeqAll {α : Type} (P : Program) (g : Nat) (lb : Array Value) (encs : α → Array Value) (S T : Nat → Prop) (xs : List α) (w : World) : Prop :=
  ∀ (l : Nat) (J : Nat → World → Prop) (W : World), Fr (fun _ => False) w W → (∀ i A B, J i A → Fr S A B → J i B) →
    (∀ i (hi : i < xs.length) W1, J i W1 → YieldAt Fence.wide 3 P l (encs xs[i]) W1 fun e W' => e = .returned (.bool true) ∧ J (i + 1) W' ∧ Kept T W1 W') →
    J 0 W → Calls P g (#[.func (.yield l) #[] #[]] ++ lb) W fun e W' => (∃ v, e = .returned v) ∧ J xs.length W'

/-- How a round may be left. -/
def goesOn (R : World → Prop) : Exit → Act → World → Prop
  | .normal, _, W' => R W'
  | _, _, _ => False

/-- A range over a function whose rounds all go on. -/
theorem wp_range_all {α : Type} {g : Operand} {ps : Array Tmp} {assign body : Code} {Q : Exit → Act → World → Prop} {a : Act} {w : World}
    {gf : Nat} {lb : Array Value} (hg : a.eval g = .func (.func gf) #[] lb) (eg : ∀ args w, (callFunc gf args).run P w = .ok (.enter gf args) w)
    {encs : α → Array Value} {S T : Nat → Prop} {xs : List α} {w0 : World} (hseq : SeqAll P gf lb encs S T xs w0) (hb0 : Fr (fun _ => False) w0 w) (hps : ∀ x, (encs x).size = ps.size)
    (hS : ∀ k, S k → k < w.heap.size) (hT : ∀ k, T k → k < w.heap.size) (I : Nat → World → Prop)
    (hI : ∀ i A B, I i A → Fr (fun k => S k ∨ k = w.heap.size ∨ k = w.heap.size + 1) A B → I i B) (h0 : I 0 w) (a₁ : α → Act)
    (hassign : ∀ (l : Nat) (x : α) (W : World) (K : Act → World → Prop), K (a₁ x) W →
      assign.wpIn (Fence.wide.inRound l) 3 P (Exit.then K (fun _ _ _ => False)) { tmps := (ps.zip (encs x)).foldl (fun t (p, v) => t.setIfInBounds p v) a.tmps, defers := [] } W)
    (hbody : ∀ (l i : Nat) (hi : i < xs.length) (W : World), I i W → w.heap.size + 2 ≤ W.heap.size →
      body.wpIn (Fence.wide.inRound l) 3 P (goesOn fun W' => I (i + 1) W' ∧ Kept (fun k => T k ∨ k = w.heap.size ∨ k = w.heap.size + 1) W W') (a₁ xs[i]) W)
    (hdone : ∀ (W : World), I xs.length W → W.heap[w.heap.size]? = some (.deferred (some [])) → Q .normal { a with defers := { target := .collected w.heap.size, args := #[] } :: a.defers } W) :
    (Code.rangeFunc g ps assign body).wp P Q a w := by
  refine (wpIn_wide (n := 3)).1 (wpIn_rangeFunc ?_)
  intro fn hfn
  obtain ⟨rec, hrec⟩ : ∃ rec : LoopState → Option Code → Loop, rec = fun st pe => { state := st, pending := pe, fn, tmps := a.tmps, params := ps, assign, body, defers := w.heap.size } := ⟨_, rfl⟩
  obtain ⟨W1, hW1⟩ : ∃ W1, (w.alloc (.deferred (some []))).alloc (.loop (rec .ready none)) = W1 := ⟨_, rfl⟩
  have hL1 : W1.heap[w.heap.size + 1]? = some (.loop (rec .ready none)) := by
    rw [← hW1]; have := World.alloc_heap_new (w.alloc (.deferred (some []))) (.loop (rec .ready none)); rwa [World.size_alloc] at this
  have hK1 : W1.heap[w.heap.size]? = some (.deferred (some [])) := by
    rw [← hW1]; exact (Below.heap_alloc _ _ _ (by simp)).trans (World.alloc_heap_new w _)
  have f1 : Fr (fun _ => False) w W1 := by rw [← hW1]; exact ((Fr.refl _ w).alloc _).alloc _
  have hI1 : I 0 W1 := hI 0 _ _ h0 (f1.mono fun _ _ h => h.elim)
  refine ⟨w.heap.size + 1, [{ target := .collected w.heap.size, args := #[] }], W1, { target := .fn (.func gf) lb, args := #[.func (.yield (w.heap.size + 1)) #[] #[]] }, W1, gf,
    #[.func (.yield (w.heap.size + 1)) #[] #[]] ++ lb, W1, ?_, ?_, ?_, ?_, (fun h => by cases h), ?_⟩
  · rw [← hW1, hrec]; exact run_enterLoop_outer _ _ _ _ _
  · simp only [resolve, hg]
    simp [go_sem]
  · intro f' hf'; exact trivial
  · simp [invoke, go_sem, eg]
  · refine callsIn_wide.2 ((hseq (w.heap.size + 1)
      (fun i W => I i W ∧ W.heap[w.heap.size + 1]? = some (.loop (rec .ready none)) ∧ W.heap[w.heap.size]? = some (.deferred (some [])) ∧ w.heap.size + 2 ≤ W.heap.size)
      W1 (hb0.trans f1 fun _ _ h => h)
      (fun i A B ⟨hi, hl, hk, hz⟩ hf => ⟨hI i A B hi (hf.mono fun _ _ h => .inl h), ?_, ?_, Nat.le_trans hz hf.size⟩)
      ?_ ⟨hI1, hL1, hK1, by rw [← hW1]; simp⟩).mono ?_)
    · exact (hf.block _ (by omega) (fun h => by have := hS _ h; omega)).trans hl
    · exact (hf.block _ (by omega) (fun h => by have := hS _ h; omega)).trans hk
    · rintro i hi W ⟨hJ, hl, hk, hz⟩
      have hlt : w.heap.size + 1 < W.heap.size := by omega
      have hy := run_yield (P := P) (args := encs xs[i]) hl (by rw [hrec]; exact hps _)
      rw [hrec] at hy
      refine ⟨fn, _, assign, body, hy, roundIn_of_wpIn hfn (hassign _ xs[i] W _ ⟨_, run_beginRound hl (by rw [hrec]), ?_⟩)⟩
      have hl2 : (W.putObj (w.heap.size + 1) (.loop { rec .ready none with state := .busy })).heap[w.heap.size + 1]? = some (.loop { rec .ready none with state := .busy }) := World.putObj_heap_same hlt
      have hk2 : (W.putObj (w.heap.size + 1) (.loop { rec .ready none with state := .busy })).heap[w.heap.size]? = some (.deferred (some [])) := (World.putObj_heap_other (by omega)).trans hk
      have fb : Fr (fun k => S k ∨ k = w.heap.size ∨ k = w.heap.size + 1) W (W.putObj (w.heap.size + 1) (.loop { rec .ready none with state := .busy })) := Fr.putObj _ (.inr (.inr rfl))
      refine wpIn_mono (hbody _ i hi _ (hI _ _ _ hJ fb) (by simpa using hz)) ?_
      rintro e a3 W3 hp
      cases e with
      | normal =>
        obtain ⟨hi3, hk3⟩ := hp
        have hz3 : w.heap.size + 2 ≤ W3.heap.size := Nat.le_trans (by simpa using hz) hk3.size
        have hl3 := (hk3.block (w.heap.size + 1) (by simpa using hlt) (.inr (.inr rfl))).trans hl2
        have hkk := (hk3.block w.heap.size (by simp; omega) (.inr (.inl rfl))).trans hk2
        have hr := run_endRound (P := P) none hl3
        rw [hrec] at hr
        refine ⟨_, _, hr, rfl, ⟨hI _ _ _ hi3 (Fr.putObj _ (.inr (.inr rfl))), ?_, (World.putObj_heap_other (by omega)).trans hkk, by simpa using hz3⟩, ?_⟩
        · rw [World.putObj_heap_same (by omega), hrec]; rfl
        · exact ((Kept.putObj W _ _ (fun h => by have := hT _ h; omega)).trans (hk3.mono fun _ h => .inl h)).trans (Kept.putObj _ _ _ (fun h => by have := hT _ h; omega))
      | ret => exact hp.elim
      | exit id => exact hp.elim
      | goto t => exact hp.elim
      | panic ch => exact hp.elim
      | outgrown => exact hp.elim
    · rintro e W2 ⟨⟨v, rfl⟩, hi, hl, hk, hz⟩
      refine ⟨none, _, by have := run_endLoop (P := P) hl (by rw [hrec]; simp); rw [hrec] at this; exact this, ?_⟩
      exact hdone _ (hI _ _ _ hi (Fr.putObj _ (.inr (.inr rfl)))) ((World.putObj_heap_other (by omega)).trans hk)

/-- A function that ranges over functions: it leaves with marks. -/
theorem calls_marks {f : FuncId} {fn : Func} {c : Code} {args : Array Value} {w : World} {R : Ending → World → Prop} (hf : P.funcs[f]? = some fn) (hb : fn.body = some c)
    (h : c.wp P (bodyPostM Fence.wide 3 P fn R) { tmps := args ++ Array.replicate (fn.ntmps - args.size) undef, defers := [] } w) : Calls P f args w R :=
  callsIn_wide.1 (callsIn_of_wp_marks hf hb trivial ((wpIn_wide (n := 3)).2 h) rfl)
end Go.Proofs.YtkkohdmneognlaaGreatDoor

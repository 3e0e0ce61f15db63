import Derived.Deep.RegionHeld3
import Derived.Deep.LoopGhost
import Derived.BigQuiet
import Derived.Deep.CutRange
import Derived.Test.YtginfnbdnkgjbaaGreatV0
import Derived.Test.YtginfnbdnkgjbaaGreatLp
import Derived.Test.YtginfnbdnkgjbaaGreatKg
import Derived.Test.YtginfnbdnkgjbaaGreatMk
import Derived.Test.YtginfnbdnkgjbaaGreatKe
import Derived.Test.YtginfnbdnkgjbaaGreatKf
import Derived.Test.YtginfnbdnkgjbaaGreatV1
import Derived.Test.YtginfnbdnkgjbaaGreatLm
import Derived.Deep.QuietTactic
namespace Go.Proofs.YtginfnbdnkgjbaaGreat.Lk
open Go.RowKit
theorem lhasr_any {A : Option Addr} {c n : Nat} (s : Int) (w : World) : Calls Tryz.prog 140 #[.slice A n c, .int .i64 s] w fun e w' => e = .returned (.bool (isSecB n s)) ∧ w = w' := by
 unfold isSecB
 by_cases h1 : 0 ≤ s
 ·rw [show decide (0 ≤ s) = true by simp [h1], Bool.true_and]
  generalize hd : decide (s < (n : Int)) = d
  go_enter Tryz.func140, Tryz.ntmps140
  go_wp2
  go_ret
  exact ⟨by simp [go_sem], rfl⟩
 ·rw [show decide (0 ≤ s) = false by simp [h1], Bool.false_and]
  have h3 : decide (0 ≤ s) = false := by simp [h1]
  clear h1
  generalize hd : decide (s < (n : Int)) = d
  go_enter Tryz.func140, Tryz.ntmps140
  go_wp2
  go_ret
  exact ⟨by simp [go_sem], rfl⟩
theorem lhast_any {A : Option Addr} {c n : Nat} (s : Int) (w : World) : Calls Tryz.prog 227 #[.slice A n c, .int .i64 s] w fun e w' => e = .returned (.bool (isSecB n s)) ∧ w = w' := by
 unfold isSecB
 by_cases h1 : 0 ≤ s
 ·rw [show decide (0 ≤ s) = true by simp [h1], Bool.true_and]
  generalize hd : decide (s < (n : Int)) = d
  go_enter Tryz.func227, Tryz.ntmps227
  go_wp2
  go_ret
  exact ⟨by simp [go_sem], rfl⟩
 ·rw [show decide (0 ≤ s) = false by simp [h1], Bool.false_and]
  have h3 : decide (0 ≤ s) = false := by simp [h1]
  clear h1
  generalize hd : decide (s < (n : Int)) = d
  go_enter Tryz.func227, Tryz.ntmps227
  go_wp2
  go_ret
  exact ⟨by simp [go_sem], rfl⟩
def Left (w0 : World) (sb : Nat) (C : Cm) (x : Kp × Int) (e : Ending) (w' : World) : Prop := e = .returned (.int .i64 x.2) ∧ ∃ K, K.kp = x.1 ∧ St w0 w' sb K C
theorem rsAt_lt {K : Km} {j : Nat} (hj : j < K.rts.length) : rsAt K.kp j = K.rts[j] := by
 show K.rts.getD (Int.toNat j) default = _
 rw [Int.toNat_natCast, List.getD_eq_getElem?_getD, List.getElem?_eq_getElem hj]; rfl
theorem ownAt_lt {l : List Int} {j : Nat} (hj : j < l.length) : ownAt l j = l[j] := by
 show l.getD (Int.toNat j) 0 = _
 rw [Int.toNat_natCast, List.getD_eq_getElem?_getD, List.getElem?_eq_getElem hj]; rfl
end Go.Proofs.YtginfnbdnkgjbaaGreat.Lk
namespace Go.Proofs.YtginfnbdnkgjbaaGreat.Lk
open Go.RowKit
def goK (n : Nat) (k : Kp) (now r : Int) (sts : List Int) : Kp × Int := if isSecB n r = false then (k, 20) else if sts.contains (rsAt k r).st = false then (k, 28) else (endK k now r, 0)
theorem St.two {w0 W : World} {sb : Nat} {K : Km} {C : Cm} {j g : Nat} {x : Rs} (h : St w0 W sb { K with rts := K.rts.set j x } C) (hj : j < K.rts.length) (hA : K.A2 = some ⟨g, 0, none⟩) :
  W.cell? ⟨sb, 1, none⟩ = some (.slice (some ⟨g, 0, none⟩) K.rts.length K.c2) ∧ W.cell? ⟨g, j * 4 + 2, none⟩ = some (.int .i64 x.nxt) := by
 refine ⟨?_, ?_⟩
 ·have := h.is.cell 1
  simpa [stArr, hA] using this
 ·obtain ⟨g', e, _, _, q, _⟩ := h.at2 (j := j) (by simpa using hj)
  have e : K.A2 = some ⟨g', 0, none⟩ := e
  rw [hA] at e; injection e with e; injection e with e
  subst e
  simpa using q
end Go.Proofs.YtginfnbdnkgjbaaGreat.Lk
namespace Go.Proofs.YtginfnbdnkgjbaaGreat.Lk
open Go.RowKit
set_option maxRecDepth 100000 in
set_option maxHeartbeats 4000000 in
theorem take_any {w0 w : World} {sb : Nat} {K : Km} {C : Cm} (h : St w0 w sb K C) {A : Option Addr} {c : Nat} (r : Int) (l : List Int) (hr : 0 ≤ r) (hr2 : r ≤ 140737488355328) (hl : l.length ≤ 9223372036854775807) (hA : Rd w A (l.map (Value.int .i64)))
  (hne : ∀ q, blk A = some q → ¬ blk K.A1 = some q) (hs : ∀ s ∈ l, 0 ≤ s ∧ s < K.own.length) :
  Calls Tryz.prog 147 #[.pointer (some ⟨sb, 0, none⟩), .int .i64 r, .slice A l.length c] w fun e w' => e = .returned (.tuple #[]) ∧ St w0 w' sb { K with own := takeL (r + 1) l K.own } C ∧ Fr (fun q => blk K.A1 = some q) w w' := by
 generalize hT : takeL (r + 1) l K.own = T
 have HT := Lib.hid hT
 have HH := Lib.hid h
 clear hT h
 go_enter Tryz.func147, Tryz.ntmps147
 go_wp2_with fail
 go_loopg [7, 10] l.length (fun gi _ v10 wr => ∃ (k : Nat) (o : List Int), k ≤ l.length ∧ gi = l.length - k ∧ v10 = .int .i64 (k : Nat) ∧ o.length = K.own.length ∧ takeL (r + 1) (l.drop k) o = T ∧ St w0 wr sb { K with own := o } C ∧ Fr (fun q => blk K.A1 = some q) w wr)
 case atStart => exact ⟨0, K.own, Nat.zero_le _, rfl, rfl, rfl, HT.out, HH.out, Fr.refl _ _⟩
 case round =>
  clear HT HH
  obtain ⟨k, o, hk, rfl, rfl, ho, hT, HS, f⟩ := hrel
  by_cases hlt : k < l.length
  ·obtain ⟨g, p, hA1, q0⟩ := rd_int (hA.fr f hne) hlt
   have hx := hs l[k] (List.getElem_mem hlt)
   rw [List.drop_eq_getElem_cons hlt, takeL] at hT
   generalize hR : l.drop (k + 1) = R at hT
   have HR := Lib.hid hR
   clear hR
   generalize l[k] = x at *
   obtain ⟨j, rfl⟩ := Int.eq_ofNat_of_zero_le hx.1
   rw [Int.toNat_natCast] at hT
   have hj : j < o.length := by omega
   obtain ⟨g1, hB, _, _, d1, z1, _⟩ := HS.own.set1 (K := { K with own := o }) hj 0
   have hB : K.A1 = some ⟨g1, 0, none⟩ := hB
   have cl : wr.cell? ⟨sb, 0, none⟩ = some (.slice (some ⟨g1, 0, none⟩) o.length K.c1) := by
    have := HS.is.cell 0
    simpa [stArr, hB] using this
   have HN := Lib.hid (HS.owner (K := { K with own := o }) hj hB (r + 1))
   have HF := Lib.hid (f.setCell (p := ⟨g1, j, none⟩) (.inl (by rw [hB]; rfl)) (.int .i64 (r + 1)))
   have i1 : (0 : Int) ≤ (k : Int) := by omega
   have i2 : (k : Int) < (l.length : Int) := by omega
   have HT := Lib.hid hT
   have HO := Lib.hid ho
   have HB := Lib.hid hB
   rw [hA1]
   have HA1 := Lib.hid hA1
   clear hA1 hT hx HS hB ho hne hs hA f
   go_wp2_with fail
   rw [← HA1.out]
   go_roundg (l.length - (k + 1))
   case measure => omega
   case rel => exact ⟨k + 1, o.set j (r + 1), by omega, rfl, by go_num, by rw [List.length_set]; exact HO.out, by rw [HR.out]; exact HT.out, HN.out, HF.out⟩
  ·rw [List.drop_eq_nil_of_le (by omega)] at hT
   obtain rfl : o = T := hT
   go_wp2_with fail
   go_end0
   exact ⟨rfl, HS, f⟩
theorem St.at5 {w0 w : World} {sb : Nat} {K : Km} {C : Cm} (h : St w0 w sb K C) {j : Nat} (hj : j < K.lns.length) : ∃ g, K.A5 = some ⟨g, 0, none⟩ ∧ w.cell? ⟨g, j * 8, none⟩ = some (.int .i64 K.lns[j].ask) ∧ w.frozen? ⟨g, j * 8, none⟩ = false := by
 obtain ⟨g, hA, _, _⟩ := own_some h.own.lns (by omega)
 have ho := h.own.lns
 obtain ⟨g', o, e, c0, -⟩ := rd_ln (wide_rd ho) hj
 rw [hA] at ho e
 injection e with e
 injection e with e1 e2
 subst e1 e2
 simp only [Nat.zero_add] at c0
 exact ⟨g, hA, c0, ho.frozenAt _⟩
def askLs : List Int → List Ln → List Ln
 | [], o => o
 | n :: l, o => askLs l (o.set n.toNat { o.getD n.toNat default with ask := (o.getD n.toNat default).ask + 1 })
set_option maxRecDepth 100000 in
set_option maxHeartbeats 4000000 in
theorem askfor_any {w0 w : World} {sb : Nat} {K : Km} {C : Cm} (h : St w0 w sb K C) {A : Option Addr} {c : Nat} (l : List Int) (hl : l.length ≤ 140737488355328) (hA : Rd w A (l.map (Value.int .i64)))
  (hne : ∀ q, blk A = some q → ¬ blk K.A5 = some q) (hs : ∀ s ∈ l, 0 ≤ s ∧ s < K.lns.length) (ha : ∀ x ∈ K.lns, 0 ≤ x.ask ∧ x.ask ≤ 4294967295) :
  Calls Tryz.prog 152 #[.pointer (some ⟨sb, 0, none⟩), .slice A l.length c] w fun e w' => e = .returned (.tuple #[]) ∧ St w0 w' sb { K with lns := askLs l K.lns } C ∧ Fr (fun q => blk K.A5 = some q) w w' := by
 generalize hT : askLs l K.lns = T
 have HT := Lib.hid hT
 have HH := Lib.hid h
 have HA := Lib.hid ha
 clear hT h ha
 go_enter Tryz.func152, Tryz.ntmps152
 go_wp2_with fail
 go_loopg [5, 8] l.length (fun gi _ v10 wr => ∃ (k : Nat) (o : List Ln), k ≤ l.length ∧ gi = l.length - k ∧ v10 = .int .i64 (k : Nat) ∧ o.length = K.lns.length ∧ (∀ x ∈ o, 0 ≤ x.ask ∧ x.ask ≤ 4294967295 + k) ∧ askLs (l.drop k) o = T ∧ St w0 wr sb { K with lns := o } C ∧ Fr (fun q => blk K.A5 = some q) w wr)
 case atStart => exact ⟨0, K.lns, Nat.zero_le _, rfl, rfl, rfl, by simpa using HA.out, HT.out, HH.out, Fr.refl _ _⟩
 case round =>
  clear HT HH HA
  obtain ⟨k, o, hk, rfl, rfl, ho, ha, hT, HS, f⟩ := hrel
  by_cases hlt : k < l.length
  ·obtain ⟨g, p, hA1, q0⟩ := rd_int (hA.fr f hne) hlt
   have hx := hs l[k] (List.getElem_mem hlt)
   rw [List.drop_eq_getElem_cons hlt, askLs] at hT
   generalize hR : l.drop (k + 1) = R at hT
   have HR := Lib.hid hR
   clear hR
   generalize l[k] = x at *
   obtain ⟨j, rfl⟩ := Int.eq_ofNat_of_zero_le hx.1
   have hj : j < o.length := by omega
   rw [Int.toNat_natCast, show o.getD j default = o[j] by rw [List.getD_eq_getElem?_getD, List.getElem?_eq_getElem hj]; rfl] at hT
   obtain ⟨g1, hB, d1, z1⟩ := HS.at5 (K := { K with lns := o }) hj
   have hB : K.A5 = some ⟨g1, 0, none⟩ := hB
   have d1 : wr.cell? ⟨g1, j * 8, none⟩ = some (.int .i64 o[j].ask) := d1
   have hb := ha o[j] (List.getElem_mem hj)
   have cl : wr.cell? ⟨sb, 4, none⟩ = some (.slice (some ⟨g1, 0, none⟩) o.length K.c5) := by
    have := HS.is.cell 4
    simpa [stArr, hB] using this
   have HN := Lib.hid (HS.asked (K := { K with lns := o }) hj hB (o[j].ask + 1))
   have HF := Lib.hid (f.setCell (p := ⟨g1, j * 8, none⟩) (.inl (by rw [hB]; rfl)) (.int .i64 (o[j].ask + 1)))
   have HL : Hid (∀ x ∈ o.set j { o[j] with ask := o[j].ask + 1 }, 0 ≤ x.ask ∧ x.ask ≤ 4294967295 + ((k + 1 : Nat) : Int)) := Lib.hid fun x hx => by
    rcases List.mem_or_eq_of_mem_set hx with h | rfl
    ·have := ha x h
     omega
    ·show 0 ≤ o[j].ask + 1 ∧ o[j].ask + 1 ≤ _
     omega
   have i1 : (0 : Int) ≤ (k : Int) := by omega
   have i2 : (k : Int) < (l.length : Int) := by omega
   have HT := Lib.hid hT
   have HO := Lib.hid ho
   have HB := Lib.hid hB
   rw [hA1]
   have HA1 := Lib.hid hA1
   clear hA1 hT hx HS hB ho hne hs hA f ha
   generalize ho' : o[j] = x at *
   go_wp2_with fail
   rw [← HA1.out]
   go_roundg (l.length - (k + 1))
   case measure => omega
   case rel => exact ⟨k + 1, o.set j { x with ask := x.ask + 1 }, by omega, rfl, by go_num, by rw [List.length_set]; exact HO.out, HL.out, by rw [HR.out]; exact HT.out, by subst ho'; exact HN.out, HF.out⟩
  ·rw [List.drop_eq_nil_of_le (by omega)] at hT
   obtain rfl : o = T := hT
   go_wp2_with fail
   go_end0
   exact ⟨rfl, HS, f⟩
end Go.Proofs.YtginfnbdnkgjbaaGreat.Lk
namespace Go.Proofs.YtginfnbdnkgjbaaGreat.Lk
open Go.RowKit
theorem St.at4 {w0 w : World} {sb : Nat} {K : Km} {C : Cm} (h : St w0 w sb K C) {j : Nat} (hj : j < K.crs.length) : ∃ g, K.A4 = some ⟨g, 0, none⟩ ∧ w.cell? ⟨g, j * 2, none⟩ = some (.int .i64 K.crs[j].cmd) ∧ w.cell? ⟨g, j * 2 + 1, none⟩ = some (.int .i64 K.crs[j].oth) ∧ w.frozen? ⟨g, j * 2, none⟩ = false ∧ w.frozen? ⟨g, j * 2 + 1, none⟩ = false := by
 obtain ⟨g, hA, _, _⟩ := own_some h.own.crs (by omega)
 have ho := h.own.crs
 obtain ⟨g', o, e, c0, c1⟩ := rd_mo (wide_rd ho) hj
 rw [hA] at ho e
 injection e with e
 injection e with e1 e2
 subst e1 e2
 simp only [Nat.zero_add] at c0 c1
 exact ⟨g, hA, c0, c1, ho.frozenAt _, ho.frozenAt _⟩
theorem St.free4 {w0 w : World} {sb : Nat} {K : Km} {C : Cm} {o : List Mo} {g j : Nat} (h : St w0 w sb { K with crs := o } C) (hj : j < o.length) (hB : K.A4 = some ⟨g, 0, none⟩) : ∃ u1 u2, w.cell? ⟨g, j * 2, none⟩ = some u1 ∧ w.cell? ⟨g, j * 2 + 1, none⟩ = some u2 ∧ w.frozen? ⟨g, j * 2, none⟩ = false ∧ w.frozen? ⟨g, j * 2 + 1, none⟩ = false := by
 obtain ⟨g', e, c0, c1, z0, z1⟩ := h.at4 (K := { K with crs := o }) hj
 have e : K.A4 = some ⟨g', 0, none⟩ := e
 rw [hB] at e; injection e with e; injection e with e
 subst e
 exact ⟨_, _, c0, c1, z0, z1⟩
theorem St.cell3 {w0 w : World} {sb : Nat} {K : Km} {C : Cm} {o : List Mo} {g : Nat} (h : St w0 w sb { K with crs := o } C) (hB : K.A4 = some ⟨g, 0, none⟩) : w.cell? ⟨sb, 3, none⟩ = some (.slice (some ⟨g, 0, none⟩) o.length K.c4) := by
 have := h.is.cell 3
 simpa [stArr, hB] using this
theorem St.cell3s {w0 w : World} {sb : Nat} {K : Km} {C : Cm} {o : List Mo} {g j : Nat} {x : Mo} (h : St w0 w sb { K with crs := o.set j x } C) (hB : K.A4 = some ⟨g, 0, none⟩) : w.cell? ⟨sb, 3, none⟩ = some (.slice (some ⟨g, 0, none⟩) o.length K.c4) := by
 have := h.cell3 hB
 rwa [List.length_set] at this
set_option maxRecDepth 100000 in
set_option maxHeartbeats 4000000 in
theorem close_any {w0 w : World} {sb : Nat} {K : Km} {C : Cm} (h : St w0 w sb K C) {A : Option Addr} {c : Nat} (now : Int) (l : List Int) (hl : l.length ≤ 9223372036854775807) (hA : Rd w A (l.map (Value.int .i64)))
  (hne : ∀ q, blk A = some q → ¬ blk K.A4 = some q) (hs : ∀ s ∈ l, 0 ≤ s ∧ s < K.crs.length) :
  Calls Tryz.prog 150 #[.pointer (some ⟨sb, 0, none⟩), .int .i64 now, .slice A l.length c] w fun e w' => e = .returned (.tuple #[]) ∧ St w0 w' sb { K with crs := crsL now l K.crs } C ∧ Fr (fun q => blk K.A4 = some q) w w' := by
 generalize hT : crsL now l K.crs = T
 have HT := Lib.hid hT
 have HH := Lib.hid h
 clear hT h
 go_enter Tryz.func150, Tryz.ntmps150
 go_wp2_with fail
 go_loopg [7, 10] l.length (fun gi _ v10 wr => ∃ (k : Nat) (o : List Mo), k ≤ l.length ∧ gi = l.length - k ∧ v10 = .int .i64 (k : Nat) ∧ o.length = K.crs.length ∧ crsL now (l.drop k) o = T ∧ St w0 wr sb { K with crs := o } C ∧ Fr (fun q => blk K.A4 = some q) w wr)
 case atStart => exact ⟨0, K.crs, Nat.zero_le _, rfl, rfl, rfl, HT.out, HH.out, Fr.refl _ _⟩
 case round =>
  clear HT HH
  obtain ⟨k, o, hk, rfl, rfl, ho, hT, HS, f⟩ := hrel
  by_cases hlt : k < l.length
  ·obtain ⟨g, p, hA1, q0⟩ := rd_int (hA.fr f hne) hlt
   have hx := hs l[k] (List.getElem_mem hlt)
   rw [List.drop_eq_getElem_cons hlt, crsL] at hT
   generalize hR : l.drop (k + 1) = R at hT
   have HR := Lib.hid hR
   clear hR
   generalize l[k] = x at *
   obtain ⟨j, rfl⟩ := Int.eq_ofNat_of_zero_le hx.1
   have hj : j < o.length := by omega
   rw [Int.toNat_natCast, show o.getD j default = o[j] by rw [List.getD_eq_getElem?_getD, List.getElem?_eq_getElem hj]; rfl] at hT
   unfold cmdM at hT
   have KC := fun W => Mv.command_any o[j].cmd o[j].oth now 1 W
   generalize (if o[j].cmd = 1 then o[j].oth else now) = d at hT KC
   obtain ⟨g1, hB, d1, d2, -, -⟩ := HS.at4 (K := { K with crs := o }) hj
   have hB : K.A4 = some ⟨g1, 0, none⟩ := hB
   have d1 : wr.cell? ⟨g1, j * 2, none⟩ = some (.int .i64 o[j].cmd) := d1
   have d2 : wr.cell? ⟨g1, j * 2 + 1, none⟩ = some (.int .i64 o[j].oth) := d2
   have HZ := Lib.hid HS
   have HS : Hid (∀ W, Fr (fun _ => False) wr W → W.cell? ⟨sb, 3, none⟩ = some (.slice (some ⟨g1, 0, none⟩) o.length K.c4)) := Lib.hid fun W fW => St.cell3 (HZ.out.fr fW) hB
   have i1 : (0 : Int) ≤ (k : Int) := by omega
   have i2 : (k : Int) < (l.length : Int) := by omega
   have HT := Lib.hid hT
   have HO := Lib.hid ho
   have HB := Lib.hid hB
   have HF := Lib.hid f
   rw [hA1]
   have HA1 := Lib.hid hA1
   clear hA1 hT hx hB ho hne hs hA f
   generalize ha1 : o[j].cmd = a1 at *
   generalize ha2 : o[j].oth = a2 at *
   clear ha1 ha2
   go_upto_region 3 with fail
   clear i1 i2
   refine wp_region_held_drew (S := (fun Wx => Wx.cell? ⟨sb, 3, none⟩ = some (.slice (some ⟨g1, 0, none⟩) o.length K.c4))) (by kernel_rfl) (HS.out _ (Fr.refl _ wr).drew) (fun hHeld => ?_)
   refine wpAnyH_take (i := 0) (oi := { dst := some 14, op := _, type := _, pos := _, after := _, guard := _ }) (v := ?_) rfl (by kernel_rfl) (by kernel_rfl) (by kernel_rfl) (fun _ _ _ h => h) (Or.inl ⟨by rfl, ?_⟩) (by assumption) ?_
   rotate_left
   ·intro Wx hSw
    try dsimp only at hSw
    go_simp
    try with_reducible rfl
   try simp only [Act.put, List.setIfInBounds_toArray, List.set_cons_zero, List.set_cons_succ]
   refine wpAnyH_take (i := 1) (oi := { dst := some 15, op := _, type := _, pos := _, after := _, guard := _ }) (v := ?_) rfl (by kernel_rfl) (by kernel_rfl) (by kernel_rfl) (fun _ _ _ h => h) (Or.inl ⟨by rfl, ?_⟩) (by assumption) ?_
   rotate_left
   ·intro Wx hSw
    try dsimp only at hSw
    go_simp
    try with_reducible rfl
   try simp only [Act.put, List.setIfInBounds_toArray, List.set_cons_zero, List.set_cons_succ]
   refine wpAnyH_take (i := 2) (oi := { dst := some 16, op := _, type := _, pos := _, after := _, guard := _ }) (v := ?_) rfl (by kernel_rfl) (by kernel_rfl) (by kernel_rfl) (fun _ _ _ h => h) (Or.inl ⟨by rfl, ?_⟩) (by assumption) ?_
   rotate_left
   ·intro Wx hSw
    try dsimp only at hSw
    go_simp
    try with_reducible rfl
   try simp only [Act.put, List.setIfInBounds_toArray, List.set_cons_zero, List.set_cons_succ]
   refine wpAnyH_take (i := 3) (oi := { dst := some 17, op := _, type := _, pos := _, after := _, guard := _ }) (v := ?_) rfl (by kernel_rfl) (by kernel_rfl) (by kernel_rfl) (fun _ _ _ h => h) (Or.inl ⟨by rfl, ?_⟩) (by assumption) ?_
   rotate_left
   ·intro Wx hSw
    try dsimp only at hSw
    go_simp
    try with_reducible rfl
   try simp only [Act.put, List.setIfInBounds_toArray, List.set_cons_zero, List.set_cons_succ]
   refine wpAnyH_take (i := 4) (oi := { dst := some 18, op := _, type := _, pos := _, after := _, guard := _ }) (v := ?_) rfl (by kernel_rfl) (by kernel_rfl) (by kernel_rfl) (fun _ _ _ h => h) (Or.inl ⟨by rfl, ?_⟩) (by assumption) ?_
   rotate_left
   ·intro Wx hSw
    try dsimp only at hSw
    go_simp
    try with_reducible rfl
   try simp only [Act.put, List.setIfInBounds_toArray, List.set_cons_zero, List.set_cons_succ]
   refine wpAnyH_take (i := 5) (oi := { dst := some 19, op := _, type := _, pos := _, after := _, guard := _ }) (v := ?_) rfl (by kernel_rfl) (by kernel_rfl) (by kernel_rfl) (fun _ _ _ h => h) (Or.inl ⟨by rfl, ?_⟩) (by assumption) ?_
   rotate_left
   ·intro Wx hSw
    try dsimp only at hSw
    go_simp
    try with_reducible rfl
   try simp only [Act.put, List.setIfInBounds_toArray, List.set_cons_zero, List.set_cons_succ]
   refine wpAnyH_take (i := 6) (oi := { dst := some 20, op := _, type := _, pos := _, after := _, guard := _ }) (v := ?_) rfl (by kernel_rfl) (by kernel_rfl) (by kernel_rfl) (fun _ _ _ h => h) (Or.inl ⟨by rfl, ?_⟩) (by assumption) ?_
   rotate_left
   ·intro Wx hSw
    try dsimp only at hSw
    go_simp
    try with_reducible rfl
   try simp only [Act.put, List.setIfInBounds_toArray, List.set_cons_zero, List.set_cons_succ]
   refine wpAnyH_take (i := 7) (oi := { dst := some 21, op := _, type := _, pos := _, after := _, guard := _ }) (v := ?_) rfl (by kernel_rfl) (by kernel_rfl) (by kernel_rfl) (fun _ _ _ h => h) (Or.inl ⟨by rfl, ?_⟩) (by assumption) ?_
   rotate_left
   ·intro Wx hSw
    try dsimp only at hSw
    go_simp
    try with_reducible rfl
   try simp only [Act.put, List.setIfInBounds_toArray, List.set_cons_zero, List.set_cons_succ]
   refine wpAnyH_take (i := 8) (oi := { dst := some 22, op := _, type := _, pos := _, after := _, guard := _ }) (v := ?_) rfl (by kernel_rfl) (by kernel_rfl) (by kernel_rfl) (fun _ _ _ h => h) (Or.inl ⟨by rfl, ?_⟩) (by assumption) ?_
   rotate_left
   ·intro Wx hSw
    try dsimp only at hSw
    go_simp
    try with_reducible rfl
   try simp only [Act.put, List.setIfInBounds_toArray, List.set_cons_zero, List.set_cons_succ]
   refine wpAnyH_take (i := 9) (oi := { dst := some 23, op := _, type := _, pos := _, after := _, guard := _ }) (v := ?_) rfl (by kernel_rfl) (by kernel_rfl) (by kernel_rfl) (fun _ _ _ h => h) (Or.inl ⟨by rfl, ?_⟩) (by assumption) ?_
   rotate_left
   ·intro Wx hSw
    try dsimp only at hSw
    go_simp
    try with_reducible rfl
   try simp only [Act.put, List.setIfInBounds_toArray, List.set_cons_zero, List.set_cons_succ]
   refine wpAnyH_take (i := 10) (oi := { dst := some 24, op := _, type := _, pos := _, after := _, guard := _ }) (v := ?_) rfl (by kernel_rfl) (by kernel_rfl) (by kernel_rfl) (fun _ _ _ h => h) (Or.inl ⟨by rfl, ?_⟩) (by assumption) ?_
   rotate_left
   ·intro Wx hSw
    try dsimp only at hSw
    go_simp
    try with_reducible rfl
   try simp only [Act.put, List.setIfInBounds_toArray, List.set_cons_zero, List.set_cons_succ]
   refine wpAnyH_take (i := 11) (oi := { dst := some 25, op := _, type := _, pos := _, after := _, guard := _ }) (v := ?_) rfl (by kernel_rfl) (by kernel_rfl) (by kernel_rfl) (fun _ _ _ h => h) (Or.inl ⟨by rfl, ?_⟩) (by assumption) ?_
   rotate_left
   ·intro Wx hSw
    try dsimp only at hSw
    go_simp
    try with_reducible rfl
   try simp only [Act.put, List.setIfInBounds_toArray, List.set_cons_zero, List.set_cons_succ]
   refine wpAnyH_take (i := 12) (oi := { dst := some 26, op := _, type := _, pos := _, after := _, guard := _ }) (v := ?_) rfl (by kernel_rfl) (by kernel_rfl) (by kernel_rfl) (fun _ _ _ h => h) (Or.inl ⟨by rfl, ?_⟩) (by assumption) ?_
   rotate_left
   ·intro Wx hSw
    try dsimp only at hSw
    go_simp
    try with_reducible rfl
   try simp only [Act.put, List.setIfInBounds_toArray, List.set_cons_zero, List.set_cons_succ]
   refine wpAnyH_take (i := 14) (oi := { dst := some 28, op := _, type := _, pos := _, after := _, guard := _ }) (v := ?_) rfl (by kernel_rfl) (by kernel_rfl) (by kernel_rfl) (fun _ _ _ h => h) (Or.inl ⟨by rfl, ?_⟩) (by assumption) ?_
   rotate_left
   ·intro Wx hSw
    try dsimp only at hSw
    go_simp
    try with_reducible rfl
   try simp only [Act.put, List.setIfInBounds_toArray, List.set_cons_zero, List.set_cons_succ]
   refine wpAnyH_ready (rs := [13]) (by kernel_rfl) (by simp) (AllReadyH.cons rfl (fun KK hKK => ?_) AllReadyH.nil)
   go_simp
   refine hKK.out _ _ (HS.out _ (Fr.refl _ wr).drew) (fun hHeld => ?_)
   clear hKK KK
   refine wpAnyH_ready (rs := [15]) (by kernel_rfl) (by simp) (AllReadyH.cons rfl (fun KK hKK => ?_) AllReadyH.nil)
   go_simp
   refine (KC _).mono ?_
   rintro e v ⟨rfl, fv⟩
   go_simp
   refine hKK.out _ _ (HS.out _ ((Fr.refl _ wr).drew.trans fv fun _ _ e => e)) (fun hHeld => ?_)
   clear hKK KK
   have HV := Lib.hid (HZ.out.drew.fr fv)
   have HVN : Hid (St w0 ((v.setCell ⟨g1, j * 2, none⟩ (.int .i64 1)).setCell ⟨g1, j * 2 + 1, none⟩ (.int .i64 d)) sb { K with crs := o.set j ⟨1, d⟩ } C) := Lib.hid (HV.out.cross (K := { K with crs := o }) hj HB.out ⟨1, d⟩)
   obtain ⟨u1, u2, i1, i2, z1, z2⟩ := St.free4 HV.out hj HB.out
   have HSN := Lib.hid (St.cell3s HVN.out HB.out)
   clear KC
   refine wpAnyH_take (i := 16) (oi := { dst := some 30, op := _, type := _, pos := _, after := _, guard := _ }) (v := ?_) rfl (by kernel_rfl) (by kernel_rfl) (by kernel_rfl) (fun _ _ _ h => h) (Or.inl ⟨by rfl, ?_⟩) (by assumption) ?_
   rotate_left
   ·intro Wx hSw
    try dsimp only at hSw
    go_simp
    try with_reducible rfl
   try simp only [Act.put, List.setIfInBounds_toArray, List.set_cons_zero, List.set_cons_succ]
   refine wpAnyH_ready (rs := [17]) (by kernel_rfl) (by simp) (AllReadyH.cons rfl (fun KK hKK => ?_) AllReadyH.nil)
   go_simp
   refine hKK.out _ _ HSN.out (fun hHeld => ?_)
   clear hKK KK
   refine wpAnyH_done (by kernel_rfl) ?_ _
   have HFN := Lib.hid (((HF.out.drew.trans fv fun _ _ e => e.elim).setCell (p := ⟨g1, j * 2, none⟩) (.inl (by rw [HB.out]; rfl)) (.int .i64 1)).setCell (p := ⟨g1, j * 2 + 1, none⟩) (.inl (by rw [HB.out]; rfl)) (.int .i64 d))
   go_wp2_with fail
   rw [← HA1.out]
   go_roundg (l.length - (k + 1))
   case measure => omega
   case rel => exact ⟨k + 1, o.set j ⟨1, d⟩, by omega, rfl, by go_num, by rw [List.length_set]; exact HO.out, by rw [HR.out]; exact HT.out, HVN.out, HFN.out⟩
  ·rw [List.drop_eq_nil_of_le (by omega)] at hT
   obtain rfl : o = T := hT
   go_wp2_with fail
   go_end0
   exact ⟨rfl, HS, f⟩
end Go.Proofs.YtginfnbdnkgjbaaGreat.Lk
namespace Go.Proofs.YtginfnbdnkgjbaaGreat.Lk
open Go.RowKit
theorem St.at3 {w0 w : World} {sb : Nat} {K : Km} {C : Cm} (h : St w0 w sb K C) {j : Nat} (hj : j < K.pts.length) : ∃ g, K.A3 = some ⟨g, 0, none⟩ ∧ w.cell? ⟨g, j * 2, none⟩ = some (.int .i64 K.pts[j].cmd) ∧ w.cell? ⟨g, j * 2 + 1, none⟩ = some (.int .i64 K.pts[j].oth) ∧ w.frozen? ⟨g, j * 2, none⟩ = false ∧ w.frozen? ⟨g, j * 2 + 1, none⟩ = false := by
 obtain ⟨g, hA, _, _⟩ := own_some h.own.pts (by omega)
 have ho := h.own.pts
 obtain ⟨g', o, e, c0, c1⟩ := rd_mo (wide_rd ho) hj
 rw [hA] at ho e
 injection e with e
 injection e with e1 e2
 subst e1 e2
 simp only [Nat.zero_add] at c0 c1
 exact ⟨g, hA, c0, c1, ho.frozenAt _, ho.frozenAt _⟩
theorem St.free3 {w0 w : World} {sb : Nat} {K : Km} {C : Cm} {o : List Mo} {g j : Nat} (h : St w0 w sb { K with pts := o } C) (hj : j < o.length) (hB : K.A3 = some ⟨g, 0, none⟩) : ∃ u1 u2, w.cell? ⟨g, j * 2, none⟩ = some u1 ∧ w.cell? ⟨g, j * 2 + 1, none⟩ = some u2 ∧ w.frozen? ⟨g, j * 2, none⟩ = false ∧ w.frozen? ⟨g, j * 2 + 1, none⟩ = false := by
 obtain ⟨g', e, c0, c1, z0, z1⟩ := h.at3 (K := { K with pts := o }) hj
 have e : K.A3 = some ⟨g', 0, none⟩ := e
 rw [hB] at e; injection e with e; injection e with e
 subst e
 exact ⟨_, _, c0, c1, z0, z1⟩
theorem St.cell2 {w0 w : World} {sb : Nat} {K : Km} {C : Cm} {o : List Mo} {g : Nat} (h : St w0 w sb { K with pts := o } C) (hB : K.A3 = some ⟨g, 0, none⟩) : w.cell? ⟨sb, 2, none⟩ = some (.slice (some ⟨g, 0, none⟩) o.length K.c3) := by
 have := h.is.cell 2
 simpa [stArr, hB] using this
theorem St.cell2s {w0 w : World} {sb : Nat} {K : Km} {C : Cm} {o : List Mo} {g j : Nat} {x : Mo} (h : St w0 w sb { K with pts := o.set j x } C) (hB : K.A3 = some ⟨g, 0, none⟩) : w.cell? ⟨sb, 2, none⟩ = some (.slice (some ⟨g, 0, none⟩) o.length K.c3) := by
 have := h.cell2 hB
 rwa [List.length_set] at this
set_option maxRecDepth 100000 in
set_option maxHeartbeats 4000000 in
theorem point_any {w0 w : World} {sb : Nat} {K : Km} {C : Cm} (h : St w0 w sb K C) {A : Option Addr} {c : Nat} (now : Int) (l : List Nd) (hl : l.length ≤ 9223372036854775807) (hA : Rd w A (cellsN l))
  (hne : ∀ q, blk A = some q → ¬ blk K.A3 = some q) (hs : ∀ s ∈ l, 0 ≤ s.sec ∧ s.sec < K.pts.length) :
  Calls Tryz.prog 148 #[.pointer (some ⟨sb, 0, none⟩), .int .i64 now, .slice A l.length c] w fun e w' => e = .returned (.tuple #[]) ∧ St w0 w' sb { K with pts := ptsL now l K.pts } C ∧ Fr (fun q => blk K.A3 = some q) w w' := by
 generalize hT : ptsL now l K.pts = T
 have HT := Lib.hid hT
 have HH := Lib.hid h
 clear hT h
 go_enter Tryz.func148, Tryz.ntmps148
 go_wp2_with fail
 go_loopg [7, 10] l.length (fun gi _ v10 wr => ∃ (k : Nat) (o : List Mo), k ≤ l.length ∧ gi = l.length - k ∧ v10 = .int .i64 (k : Nat) ∧ o.length = K.pts.length ∧ ptsL now (l.drop k) o = T ∧ St w0 wr sb { K with pts := o } C ∧ Fr (fun q => blk K.A3 = some q) w wr)
 case atStart => exact ⟨0, K.pts, Nat.zero_le _, rfl, rfl, rfl, HT.out, HH.out, Fr.refl _ _⟩
 case round =>
  clear HT HH
  obtain ⟨k, o, hk, rfl, rfl, ho, hT, HS, f⟩ := hrel
  by_cases hlt : k < l.length
  ·obtain ⟨g, p, hA1, q0, q1⟩ := rd_nd (hA.fr f hne) hlt
   have hx := hs l[k] (List.getElem_mem hlt)
   rw [List.drop_eq_getElem_cons hlt, ptsL] at hT
   generalize hR : l.drop (k + 1) = R at hT
   have HR := Lib.hid hR
   clear hR
   generalize l[k] = x at *
   obtain ⟨s, po⟩ := x
   dsimp only at hx hT q0 q1
   obtain ⟨j, rfl⟩ := Int.eq_ofNat_of_zero_le hx.1
   have hj : j < o.length := by omega
   rw [Int.toNat_natCast, show o.getD j default = o[j] by rw [List.getD_eq_getElem?_getD, List.getElem?_eq_getElem hj]; rfl] at hT
   unfold cmdM at hT
   have KC := fun W => Mv.command_any o[j].cmd o[j].oth now po W
   generalize (if o[j].cmd = po then o[j].oth else now) = d at hT KC
   obtain ⟨g1, hB, d1, d2, -, -⟩ := HS.at3 (K := { K with pts := o }) hj
   have hB : K.A3 = some ⟨g1, 0, none⟩ := hB
   have d1 : wr.cell? ⟨g1, j * 2, none⟩ = some (.int .i64 o[j].cmd) := d1
   have d2 : wr.cell? ⟨g1, j * 2 + 1, none⟩ = some (.int .i64 o[j].oth) := d2
   have hg1 : g1 < wr.heap.size := (HS.own.lt g1 (.inr (.inr (.inl (by show blk K.A3 = _; rw [hB]; rfl))))).2
   have HZ0 := Lib.hid HS
   clear HS
   have i1 : (0 : Int) ≤ (k : Int) := by omega
   have i2 : (k : Int) < (l.length : Int) := by omega
   have HT := Lib.hid hT
   have HO := Lib.hid ho
   have HB := Lib.hid hB
   have HF := Lib.hid f
   have HG := Lib.hid hg1
   have HD1 := Lib.hid d1
   have HD2 := Lib.hid d2
   rw [hA1]
   have HA1 := Lib.hid hA1
   clear hA1 hT hx hB ho hne hs hA f hg1 d1 d2
   generalize ha1 : o[j].cmd = a1 at *
   generalize ha2 : o[j].oth = a2 at *
   clear ha1 ha2
   go_upto_region 3 with fail
   clear i1 i2
   have FB := (Fr.refl (fun _ => False) wr).alloc (.cells #[.int .i64 (j : Int), .int .i64 po] 109)
   have HI := Is.new wr 109 #[.int .i64 (j : Int), .int .i64 po]
   have d1 := (FB.cell (p := ⟨g1, j * 2, none⟩) HG.out id).trans HD1.out
   have d2 := (FB.cell (p := ⟨g1, j * 2 + 1, none⟩) HG.out id).trans HD2.out
   generalize wr.alloc _ = wb at *
   generalize hz : wr.heap.size = z at *
   have HI := Lib.hid HI
   have HNE : Hid (¬ z = g1) := Lib.hid fun e => by have := HG.out; omega
   have HZ := Lib.hid (HZ0.out.fr FB)
   have HFB := Lib.hid FB
   clear FB
   have HS : Hid (∀ W, Fr (fun _ => False) wb W → W.cell? ⟨sb, 2, none⟩ = some (.slice (some ⟨g1, 0, none⟩) o.length K.c3) ∧ W.cell? ⟨z, 0, none⟩ = some (.int .i64 (j : Int)) ∧ W.cell? ⟨z, 1, none⟩ = some (.int .i64 po)) := Lib.hid fun W fW => ⟨St.cell2 (HZ.out.fr fW) HB.out, (HI.out.fr fW id).cell 0, (HI.out.fr fW id).cell 1⟩
   refine wp_region_held_drew (S := (fun Wx => Wx.cell? ⟨sb, 2, none⟩ = some (.slice (some ⟨g1, 0, none⟩) o.length K.c3) ∧ Wx.cell? ⟨z, 0, none⟩ = some (.int .i64 (j : Int)) ∧ Wx.cell? ⟨z, 1, none⟩ = some (.int .i64 po))) (by kernel_rfl) (HS.out _ (Fr.refl _ wb).drew) (fun hHeld => ?_)
   refine wpAnyH_take (i := 0) (oi := { dst := some 14, op := _, type := _, pos := _, after := _, guard := _ }) (v := ?_) rfl (by kernel_rfl) (by kernel_rfl) (by kernel_rfl) (fun _ _ _ h => h) (Or.inl ⟨by rfl, ?_⟩) (by assumption) ?_
   rotate_left
   ·intro Wx hSw
    try dsimp only at hSw
    go_simp
    try with_reducible rfl
   try simp only [Act.put, List.setIfInBounds_toArray, List.set_cons_zero, List.set_cons_succ]
   refine wpAnyH_take (i := 1) (oi := { dst := some 15, op := _, type := _, pos := _, after := _, guard := _ }) (v := ?_) rfl (by kernel_rfl) (by kernel_rfl) (by kernel_rfl) (fun _ _ _ h => h) (Or.inl ⟨by rfl, ?_⟩) (by assumption) ?_
   rotate_left
   ·intro Wx hSw
    try dsimp only at hSw
    go_simp
    try with_reducible rfl
   try simp only [Act.put, List.setIfInBounds_toArray, List.set_cons_zero, List.set_cons_succ]
   refine wpAnyH_take (i := 2) (oi := { dst := some 16, op := _, type := _, pos := _, after := _, guard := _ }) (v := ?_) rfl (by kernel_rfl) (by kernel_rfl) (by kernel_rfl) (fun _ _ _ h => h) (Or.inl ⟨by rfl, ?_⟩) (by assumption) ?_
   rotate_left
   ·intro Wx hSw
    try dsimp only at hSw
    go_simp
    try with_reducible rfl
   try simp only [Act.put, List.setIfInBounds_toArray, List.set_cons_zero, List.set_cons_succ]
   refine wpAnyH_take (i := 3) (oi := { dst := some 17, op := _, type := _, pos := _, after := _, guard := _ }) (v := ?_) rfl (by kernel_rfl) (by kernel_rfl) (by kernel_rfl) (fun _ _ _ h => h) (Or.inl ⟨by rfl, ?_⟩) (by assumption) ?_
   rotate_left
   ·intro Wx hSw
    try dsimp only at hSw
    go_simp
    try with_reducible rfl
   try simp only [Act.put, List.setIfInBounds_toArray, List.set_cons_zero, List.set_cons_succ]
   refine wpAnyH_take (i := 4) (oi := { dst := some 18, op := _, type := _, pos := _, after := _, guard := _ }) (v := ?_) rfl (by kernel_rfl) (by kernel_rfl) (by kernel_rfl) (fun _ _ _ h => h) (Or.inl ⟨by rfl, ?_⟩) (by assumption) ?_
   rotate_left
   ·intro Wx hSw
    try dsimp only at hSw
    go_simp
    try with_reducible rfl
   try simp only [Act.put, List.setIfInBounds_toArray, List.set_cons_zero, List.set_cons_succ]
   refine wpAnyH_take (i := 5) (oi := { dst := some 19, op := _, type := _, pos := _, after := _, guard := _ }) (v := ?_) rfl (by kernel_rfl) (by kernel_rfl) (by kernel_rfl) (fun _ _ _ h => h) (Or.inl ⟨by rfl, ?_⟩) (by assumption) ?_
   rotate_left
   ·intro Wx hSw
    try dsimp only at hSw
    go_simp
    try with_reducible rfl
   try simp only [Act.put, List.setIfInBounds_toArray, List.set_cons_zero, List.set_cons_succ]
   refine wpAnyH_take (i := 6) (oi := { dst := some 20, op := _, type := _, pos := _, after := _, guard := _ }) (v := ?_) rfl (by kernel_rfl) (by kernel_rfl) (by kernel_rfl) (fun _ _ _ h => h) (Or.inl ⟨by rfl, ?_⟩) (by assumption) ?_
   rotate_left
   ·intro Wx hSw
    try dsimp only at hSw
    go_simp
    try with_reducible rfl
   try simp only [Act.put, List.setIfInBounds_toArray, List.set_cons_zero, List.set_cons_succ]
   refine wpAnyH_take (i := 7) (oi := { dst := some 21, op := _, type := _, pos := _, after := _, guard := _ }) (v := ?_) rfl (by kernel_rfl) (by kernel_rfl) (by kernel_rfl) (fun _ _ _ h => h) (Or.inl ⟨by rfl, ?_⟩) (by assumption) ?_
   rotate_left
   ·intro Wx hSw
    try dsimp only at hSw
    go_simp
    try with_reducible rfl
   try simp only [Act.put, List.setIfInBounds_toArray, List.set_cons_zero, List.set_cons_succ]
   refine wpAnyH_take (i := 8) (oi := { dst := some 22, op := _, type := _, pos := _, after := _, guard := _ }) (v := ?_) rfl (by kernel_rfl) (by kernel_rfl) (by kernel_rfl) (fun _ _ _ h => h) (Or.inl ⟨by rfl, ?_⟩) (by assumption) ?_
   rotate_left
   ·intro Wx hSw
    try dsimp only at hSw
    go_simp
    try with_reducible rfl
   try simp only [Act.put, List.setIfInBounds_toArray, List.set_cons_zero, List.set_cons_succ]
   refine wpAnyH_take (i := 9) (oi := { dst := some 23, op := _, type := _, pos := _, after := _, guard := _ }) (v := ?_) rfl (by kernel_rfl) (by kernel_rfl) (by kernel_rfl) (fun _ _ _ h => h) (Or.inl ⟨by rfl, ?_⟩) (by assumption) ?_
   rotate_left
   ·intro Wx hSw
    try dsimp only at hSw
    go_simp
    try with_reducible rfl
   try simp only [Act.put, List.setIfInBounds_toArray, List.set_cons_zero, List.set_cons_succ]
   refine wpAnyH_take (i := 10) (oi := { dst := some 24, op := _, type := _, pos := _, after := _, guard := _ }) (v := ?_) rfl (by kernel_rfl) (by kernel_rfl) (by kernel_rfl) (fun _ _ _ h => h) (Or.inl ⟨by rfl, ?_⟩) (by assumption) ?_
   rotate_left
   ·intro Wx hSw
    try dsimp only at hSw
    go_simp
    try with_reducible rfl
   try simp only [Act.put, List.setIfInBounds_toArray, List.set_cons_zero, List.set_cons_succ]
   refine wpAnyH_take (i := 11) (oi := { dst := some 25, op := _, type := _, pos := _, after := _, guard := _ }) (v := ?_) rfl (by kernel_rfl) (by kernel_rfl) (by kernel_rfl) (fun _ _ _ h => h) (Or.inl ⟨by rfl, ?_⟩) (by assumption) ?_
   rotate_left
   ·intro Wx hSw
    try dsimp only at hSw
    go_simp
    try with_reducible rfl
   try simp only [Act.put, List.setIfInBounds_toArray, List.set_cons_zero, List.set_cons_succ]
   refine wpAnyH_take (i := 12) (oi := { dst := some 26, op := _, type := _, pos := _, after := _, guard := _ }) (v := ?_) rfl (by kernel_rfl) (by kernel_rfl) (by kernel_rfl) (fun _ _ _ h => h) (Or.inl ⟨by rfl, ?_⟩) (by assumption) ?_
   rotate_left
   ·intro Wx hSw
    try dsimp only at hSw
    go_simp
    try with_reducible rfl
   try simp only [Act.put, List.setIfInBounds_toArray, List.set_cons_zero, List.set_cons_succ]
   refine wpAnyH_take (i := 13) (oi := { dst := some 27, op := _, type := _, pos := _, after := _, guard := _ }) (v := ?_) rfl (by kernel_rfl) (by kernel_rfl) (by kernel_rfl) (fun _ _ _ h => h) (Or.inl ⟨by rfl, ?_⟩) (by assumption) ?_
   rotate_left
   ·intro Wx hSw
    try dsimp only at hSw
    go_simp
    try with_reducible rfl
   try simp only [Act.put, List.setIfInBounds_toArray, List.set_cons_zero, List.set_cons_succ]
   refine wpAnyH_take (i := 14) (oi := { dst := some 28, op := _, type := _, pos := _, after := _, guard := _ }) (v := ?_) rfl (by kernel_rfl) (by kernel_rfl) (by kernel_rfl) (fun _ _ _ h => h) (Or.inl ⟨by rfl, ?_⟩) (by assumption) ?_
   rotate_left
   ·intro Wx hSw
    try dsimp only at hSw
    go_simp
    try with_reducible rfl
   try simp only [Act.put, List.setIfInBounds_toArray, List.set_cons_zero, List.set_cons_succ]
   refine wpAnyH_take (i := 16) (oi := { dst := some 30, op := _, type := _, pos := _, after := _, guard := _ }) (v := ?_) rfl (by kernel_rfl) (by kernel_rfl) (by kernel_rfl) (fun _ _ _ h => h) (Or.inl ⟨by rfl, ?_⟩) (by assumption) ?_
   rotate_left
   ·intro Wx hSw
    try dsimp only at hSw
    go_simp
    try with_reducible rfl
   try simp only [Act.put, List.setIfInBounds_toArray, List.set_cons_zero, List.set_cons_succ]
   refine wpAnyH_take (i := 17) (oi := { dst := some 31, op := _, type := _, pos := _, after := _, guard := _ }) (v := ?_) rfl (by kernel_rfl) (by kernel_rfl) (by kernel_rfl) (fun _ _ _ h => h) (Or.inl ⟨by rfl, ?_⟩) (by assumption) ?_
   rotate_left
   ·intro Wx hSw
    try dsimp only at hSw
    go_simp
    try with_reducible rfl
   try simp only [Act.put, List.setIfInBounds_toArray, List.set_cons_zero, List.set_cons_succ]
   refine wpAnyH_take (i := 18) (oi := { dst := some 32, op := _, type := _, pos := _, after := _, guard := _ }) (v := ?_) rfl (by kernel_rfl) (by kernel_rfl) (by kernel_rfl) (fun _ _ _ h => h) (Or.inl ⟨by rfl, ?_⟩) (by assumption) ?_
   rotate_left
   ·intro Wx hSw
    try dsimp only at hSw
    go_simp
    try with_reducible rfl
   try simp only [Act.put, List.setIfInBounds_toArray, List.set_cons_zero, List.set_cons_succ]
   refine wpAnyH_ready (rs := [15]) (by kernel_rfl) (by simp) (AllReadyH.cons rfl (fun KK hKK => ?_) AllReadyH.nil)
   go_simp
   refine hKK.out _ _ (HS.out _ (Fr.refl _ wb).drew) (fun hHeld => ?_)
   clear hKK KK
   refine wpAnyH_ready (rs := [19]) (by kernel_rfl) (by simp) (AllReadyH.cons rfl (fun KK hKK => ?_) AllReadyH.nil)
   go_simp
   refine (KC _).mono ?_
   rintro e v ⟨rfl, fv⟩
   go_simp
   refine hKK.out _ _ (HS.out _ ((Fr.refl _ wb).drew.trans fv fun _ _ e => e)) (fun hHeld => ?_)
   clear hKK KK
   have HV := Lib.hid (HZ.out.drew.fr fv)
   have HVN : Hid (St w0 ((v.setCell ⟨g1, j * 2, none⟩ (.int .i64 po)).setCell ⟨g1, j * 2 + 1, none⟩ (.int .i64 d)) sb { K with pts := o.set j ⟨po, d⟩ } C) := Lib.hid (HV.out.point (K := { K with pts := o }) hj HB.out ⟨po, d⟩)
   obtain ⟨u1, u2, i1, i2, z1, z2⟩ := St.free3 HV.out hj HB.out
   have HI1 := (((HI.out.fr (Fr.refl (fun _ => False) wb).drew id).fr fv id).far (p := ⟨g1, j * 2, none⟩) HNE.out (.int .i64 po)).far (p := ⟨g1, j * 2 + 1, none⟩) HNE.out (.int .i64 d)
   have HSN := Lib.hid (⟨St.cell2s HVN.out HB.out, HI1.cell 0, HI1.cell 1⟩ : _ ∧ _ ∧ _)
   clear KC HI1
   refine wpAnyH_take (i := 20) (oi := { dst := some 34, op := _, type := _, pos := _, after := _, guard := _ }) (v := ?_) rfl (by kernel_rfl) (by kernel_rfl) (by kernel_rfl) (fun _ _ _ h => h) (Or.inl ⟨by rfl, ?_⟩) (by assumption) ?_
   rotate_left
   ·intro Wx hSw
    try dsimp only at hSw
    go_simp
    try with_reducible rfl
   try simp only [Act.put, List.setIfInBounds_toArray, List.set_cons_zero, List.set_cons_succ]
   refine wpAnyH_ready (rs := [21]) (by kernel_rfl) (by simp) (AllReadyH.cons rfl (fun KK hKK => ?_) AllReadyH.nil)
   go_simp
   refine hKK.out _ _ HSN.out (fun hHeld => ?_)
   clear hKK KK
   refine wpAnyH_done (by kernel_rfl) ?_ _
   have HFN := Lib.hid ((((HF.out.trans HFB.out fun _ _ e => e.elim).drew.trans fv fun _ _ e => e.elim).setCell (p := ⟨g1, j * 2, none⟩) (.inl (by rw [HB.out]; rfl)) (.int .i64 po)).setCell (p := ⟨g1, j * 2 + 1, none⟩) (.inl (by rw [HB.out]; rfl)) (.int .i64 d))
   have i1 : (0 : Int) ≤ (k : Int) := by omega
   have i2 : (k : Int) < (l.length : Int) := by omega
   go_wp2_with fail
   rw [← HA1.out]
   go_roundg (l.length - (k + 1))
   case measure => omega
   case rel => exact ⟨k + 1, o.set j ⟨po, d⟩, by omega, rfl, by go_num, by rw [List.length_set]; exact HO.out, by rw [HR.out]; exact HT.out, HVN.out, HFN.out⟩
  ·rw [List.drop_eq_nil_of_le (by omega)] at hT
   obtain rfl : o = T := hT
   go_wp2_with fail
   go_end0
   exact ⟨rfl, HS, f⟩
end Go.Proofs.YtginfnbdnkgjbaaGreat.Lk
namespace Go.Proofs.YtginfnbdnkgjbaaGreat.Lk
open Go.RowKit
end Go.Proofs.YtginfnbdnkgjbaaGreat.Lk
namespace Go.Proofs.YtginfnbdnkgjbaaGreat.Lk
open Go.RowKit
def AnsE (w : World) (x : Kp × Int) (e : Ending) (w' : World) : Prop := ∃ K : Km, e = .returned (.tuple #[K.val, .int .i64 x.2]) ∧ K.kp = x.1 ∧ K.Own w.heap.size w' ∧ Fr (fun _ => False) w w'
end Go.Proofs.YtginfnbdnkgjbaaGreat.Lk
namespace Go.Proofs.YtginfnbdnkgjbaaGreat.Lk
open Go.RowKit
end Go.Proofs.YtginfnbdnkgjbaaGreat.Lk
namespace Go.Proofs.YtginfnbdnkgjbaaGreat.Lk
open Go.RowKit
theorem gate_congr {c : Cf} {k : Kp} {ok ok' : Bool} {x y : Kp × Int} (ho : ok = ok') (h : fitsB c k = true → x = y) : gateM c k ok x = gateM c k ok' y := by
 unfold gateM
 subst ho
 cases hf : fitsB c k
 ·simp
 ·rw [h hf]
theorem fits_lens {c : Cf} {k : Kp} (h : fitsB c k = true) : k.own.length = c.secs.length ∧ k.rts.length = c.rts.length ∧ k.pts.length = c.secs.length ∧ k.crs.length = c.crs.length ∧ k.lns.length = 4 ∧ k.rss.length = c.secs.length := by
 unfold fitsB suitsB lensB at h
 simp only [Bool.and_eq_true, decide_eq_true_eq] at h
 obtain ⟨_, ⟨h1, h2, h3, h4, h5, h6⟩, _⟩ := h
 exact ⟨h1, h2, h3, h4, h5, h6⟩
end Go.Proofs.YtginfnbdnkgjbaaGreat.Lk
namespace Go.Proofs.YtginfnbdnkgjbaaGreat.Lk
open Go.RowKit
end Go.Proofs.YtginfnbdnkgjbaaGreat.Lk
namespace Go.Proofs.YtginfnbdnkgjbaaGreat.Lk
open Go.RowKit
end Go.Proofs.YtginfnbdnkgjbaaGreat.Lk
namespace Go.Proofs.YtginfnbdnkgjbaaGreat.Lk
open Go.RowKit
theorem St.nine {w0 w : World} {sb : Nat} {K : Km} {C : Cm} (h : St w0 w sb K C) : w.cell? ⟨sb, 7, none⟩ = some (.slice C.A1 C.l.length C.c1) ∧ w.cell? ⟨sb, 8, none⟩ = some (.slice C.A2 C.js.length C.c2) ∧ w.cell? ⟨sb, 9, none⟩ = some (.slice C.A3 C.sg.length C.c3) ∧ w.cell? ⟨sb, 10, none⟩ = some (.slice C.A4 C.cr.length C.c4) ∧ w.cell? ⟨sb, 11, none⟩ = some (.slice C.A5 C.rs.length C.c5) ∧
  w.cell? ⟨sb, 12, none⟩ = some (.int .i64 C.tm.age) ∧ w.cell? ⟨sb, 13, none⟩ = some (.int .i64 C.tm.brake) ∧ w.cell? ⟨sb, 14, none⟩ = some (.int .i64 C.tm.hold) ∧ w.cell? ⟨sb, 15, none⟩ = some (.int .i64 C.tm.budget) :=
 ⟨h.is.cell 7, h.is.cell 8, h.is.cell 9, h.is.cell 10, h.is.cell 11, h.is.cell 12, h.is.cell 13, h.is.cell 14, h.is.cell 15⟩
set_option maxRecDepth 100000 in
set_option maxHeartbeats 4000000 in
theorem ahead_any {w0 w : World} {sb : Nat} {K : Km} {C : Cm} (h : St w0 w sb K C) (hC : C.Ok w) (hlr : K.rts.length = C.rs.length) (s : Int) :
  Calls Tryz.prog 144 #[.pointer (some ⟨sb, 0, none⟩), .int .i64 s] w fun e w' => e = .returned (.bool (aheadB C.sg (C.rs.map Ro.rt) K.rts s)) ∧ Fr (fun _ => False) w w' := by
 generalize hT : aheadB C.sg (C.rs.map Ro.rt) K.rts s = T
 have HT := Lib.hid hT
 have HH := Lib.hid h
 have HC := Lib.hid hC
 have hb : K.rts.length ≤ 9223372036854775807 := by have := hC.b5; omega
 have HLR := Lib.hid hlr
 clear hlr
 have c1 : w.cell? ⟨sb, 1, none⟩ = some (.slice K.A2 K.rts.length K.c2) := h.is.cell 1
 clear hT h hC
 go_enter Tryz.func144, Tryz.ntmps144
 go_wp2_with fail
 clear c1
 go_loopg [5, 6, 13] K.rts.length (fun gi _ _ v13 wr => ∃ k : Nat, k ≤ K.rts.length ∧ gi = K.rts.length - k ∧ v13 = .int .i64 (k : Nat) ∧ aheadB C.sg ((C.rs.drop k).map Ro.rt) (K.rts.drop k) s = T ∧ Fr (fun _ => False) w wr)
 case atStart => exact ⟨0, Nat.zero_le _, rfl, rfl, HT.out, Fr.refl _ _⟩
 case round =>
  clear HT
  obtain ⟨k, hk, rfl, rfl, hT, f⟩ := hrel
  by_cases hlt : k < K.rts.length
  ·have hlt' : k < C.rs.length := by have := HLR.out; omega
   have HLT := Lib.hid hlt
   obtain ⟨g, hA, q0, q1, q2, q3, -, -, -, -⟩ := (HH.out.fr f).at2 hlt
   rw [List.drop_eq_getElem_cons hlt, List.drop_eq_getElem_cons hlt', List.map_cons, aheadB] at hT
   generalize hR : aheadB C.sg ((C.rs.drop (k + 1)).map Ro.rt) (K.rts.drop (k + 1)) s = R at hT
   have HR := Lib.hid hR
   clear hR
   have KA : ∀ W, Fr (fun _ => False) w W → Calls Tryz.prog 198 #[C.val, .int .i64 (k : Int)] W fun e w' => e = .returned (.int .i64 (apM C.sg C.rs[k].entry)) ∧ Fr (fun _ => False) W w' := fun W fW => by
    have := appr_any C (k : Int) W (HC.out.fr fW)
    unfold apR at this
    rwa [if_pos (by unfold isSecB; simp; omega), Int.toNat_natCast, rs_at hlt'] at this
   unfold Cm.val Cm.arr at KA
   have hT : (!decide (K.rts[k].st = 0) && decide (apM C.sg C.rs[k].entry = s) || R) = T := hT
   generalize apM C.sg C.rs[k].entry = ap at *
   have f1 := f.alloc (.cells #[.int .i64 K.rts[k].st, .int .i64 K.rts[k].since, .int .i64 K.rts[k].nxt, .int .i64 K.rts[k].mark] 46)
   have is1 := Is.new wr 46 #[.int .i64 K.rts[k].st, .int .i64 K.rts[k].since, .int .i64 K.rts[k].nxt, .int .i64 K.rts[k].mark]
   generalize K.rts[k] = x at *
   obtain ⟨x0, x1, x2, x3⟩ := x
   dsimp only at q0 q1 q2 q3 hT f1 is1
   have i1 : (0 : Int) ≤ (k : Int) := by omega
   have i2 : (k : Int) < (K.rts.length : Int) := by omega
   rw [hA]
   have HA := Lib.hid hA
   have HF1 := Lib.hid f1
   have HI1 := Lib.hid is1
   clear hA f1 is1 f
   go_upto_region 4 with fail
   have f1 := HF1.out
   have b0 : (wr.alloc (.cells #[.int .i64 x0, .int .i64 x1, .int .i64 x2, .int .i64 x3] 46)).cell? ⟨wr.heap.size, 0, none⟩ = some (.int .i64 x0) := HI1.out.cell 0
   clear HI1 HF1 q0 q1 q2 q3
   generalize wr.alloc _ = wb at *
   have HF1 := Lib.hid f1
   obtain ⟨p0, p1, p2, p3, p4, p5, p6, p7, p8⟩ := (HH.out.fr f1).nine
   clear f1
   by_cases hx : x0 = 0
   ·subst hx
    have hT : R = T := by simpa using hT
    have HT := Lib.hid hT
    clear hT KA
    go_wp2_with fail
    rw [← HA.out]
    go_roundg (K.rts.length - (k + 1))
    case measure => have := HLT.out; omega
    case rel => exact ⟨k + 1, HLT.out, rfl, by go_num, HR.out.trans HT.out, HF1.out⟩
   ·have e1 : (x0 == 0) = false := by simpa using hx
    have e2 : decide (x0 = 0) = false := by simpa using hx
    rw [e2, Bool.not_false, Bool.true_and] at hT
    by_cases hp : ap = s
    ·subst hp
     rw [decide_eq_true rfl, Bool.true_or] at hT
     subst hT
     have HKA := Lib.hid (KA _ HF1.out)
     clear KA
     go_wp2_with fail
     refine HKA.out.mono ?_
     rintro e v ⟨rfl, fv⟩
     have HFV := Lib.hid fv
     clear fv p0 p1 p2 p3 p4 p5 p6 p7 p8
     go_wp2_with fail
     go_ret
     exact ⟨rfl, HF1.out.trans HFV.out fun _ _ e => e⟩
    ·have e3 : (ap == s) = false := by simpa using hp
     have e4 : decide (ap = s) = false := by simpa using hp
     rw [e4, Bool.false_or] at hT
     have HT := Lib.hid hT
     have HKA := Lib.hid (KA _ HF1.out)
     clear KA hT
     go_wp2_with fail
     refine HKA.out.mono ?_
     rintro e v ⟨rfl, fv⟩
     have HFV := Lib.hid fv
     clear fv p0 p1 p2 p3 p4 p5 p6 p7 p8
     go_wp2_with fail
     rw [← HA.out]
     go_roundg (K.rts.length - (k + 1))
     case measure => have := HLT.out; omega
     case rel => exact ⟨k + 1, HLT.out, rfl, by go_num, HR.out.trans HT.out, HF1.out.trans HFV.out fun _ _ e => e⟩
  ·rw [List.drop_eq_nil_of_le (show K.rts.length ≤ k by omega)] at hT
   obtain rfl : T = false := by rw [← hT]; cases (C.rs.drop k).map Ro.rt <;> rfl
   go_wp2_with fail
   go_ret
   exact ⟨rfl, f⟩
end Go.Proofs.YtginfnbdnkgjbaaGreat.Lk
namespace Go.Proofs.YtginfnbdnkgjbaaGreat.Lk
open Go.RowKit
theorem askedout_any {w0 w : World} {sb : Nat} {K : Km} {C : Cm} (h : St w0 w sb K C) {j : Nat} (hj : j < K.lns.length) :
  Calls Tryz.prog 146 #[.pointer (some ⟨sb, 0, none⟩), .int .i64 (j : Int)] w fun e w' => e = .returned (.bool (decide (K.lns[j].ask = 4294967295))) ∧ Fr (fun _ => False) w w' := by
 have c4 : w.cell? ⟨sb, 4, none⟩ = some (.slice K.A5 K.lns.length K.c5) := h.is.cell 4
 obtain ⟨g, hA, d0, -⟩ := St.at5 h hj
 rw [hA] at c4
 have i1 : (0 : Int) ≤ (j : Int) := by omega
 have i2 : (j : Int) < (K.lns.length : Int) := by omega
 clear h hA
 generalize K.lns[j].ask = a at *
 by_cases ha : a = 4294967295
 ·subst ha
  go_enter Tryz.func146, Tryz.ntmps146
  go_wp2_with fail
  go_ret
  exact ⟨rfl, Fr.refl _ _⟩
 ·rw [decide_eq_false ha]
  have e1 : (a == 4294967295) = false := by simpa using ha
  have e2 : decide (a = 4294967295) = false := decide_eq_false ha
  clear ha
  go_enter Tryz.func146, Tryz.ntmps146
  go_wp2_with fail
  go_ret
  exact ⟨rfl, Fr.refl _ _⟩
set_option maxHeartbeats 1000000 in
theorem index_ahead_any {A : Option Addr} {c sb : Nat} {l : List Int} (p : Int → Bool) (w : World) (hl : Rd w A (l.map (Value.int .i64))) (hal : l.length ≤ 9223372036854775807) (K : ∀ s ∈ l, ∀ W, Fr (fun _ => False) w W → Calls Tryz.prog 144 #[.pointer (some ⟨sb, 0, none⟩), .int .i64 s] W fun e w' => e = .returned (.bool (p s)) ∧ Fr (fun _ => False) W w') :
  Calls Tryz.prog 197 #[.slice A l.length c, .func (.func 144) #[.pointer (some ⟨sb, 0, none⟩)] #[]] w fun e w' => e = .returned (.int .i64 (Mv.firstP p l 0)) ∧ Fr (fun _ => False) w w' := by
 generalize hT : Mv.firstP p l 0 = T
 have HT := Lib.hid hT
 have HK := Lib.hid K
 clear hT K
 go_enter Tryz.func197, Tryz.ntmps197
 go_wp2_with fail
 go_loopg [5, 8] l.length (fun gi _ i wr => ∃ k : Nat, k ≤ l.length ∧ gi = l.length - k ∧ i = .int .i64 (k : Nat) ∧ Mv.firstP p (l.drop k) k = T ∧ Fr (fun _ => False) w wr)
 case atStart => exact ⟨0, Nat.zero_le _, rfl, rfl, HT.out, Fr.refl _ _⟩
 case round =>
  clear HT
  obtain ⟨k, hk, rfl, rfl, hT, fr⟩ := hrel
  by_cases hlt : k < l.length
  ·obtain ⟨g, o, hA, q0⟩ := rd_int (hl.fr fr fun _ _ => id) hlt
   have KX := HK.out l[k] (List.getElem_mem hlt) wr fr
   rw [List.drop_eq_getElem_cons hlt, Mv.firstP] at hT
   generalize hR : l.drop (k + 1) = R at hT
   have HR := Lib.hid hR
   clear hR
   generalize l[k] = y at *
   have i1 : (0 : Int) ≤ (k : Int) := by omega
   have i2 : (k : Int) < (l.length : Int) := by omega
   rw [hA]
   have HA := Lib.hid hA
   clear hA
   cases hx : p y
   ·rw [hx] at hT KX
    rw [if_neg (by decide)] at hT
    have HT := Lib.hid hT
    clear hT hx
    go_wp2_with fail
    refine KX.mono ?_
    rintro e w1 ⟨rfl, f1⟩
    have HF1 := Lib.hid f1
    have HF := Lib.hid fr
    clear f1 fr KX
    go_wp2_with fail
    rw [← HA.out]
    go_roundg (l.length - (k + 1))
    case measure => omega
    case rel => exact ⟨k + 1, by omega, rfl, by go_num, by rw [HR.out]; exact HT.out, fr_nil HF.out HF1.out⟩
   ·rw [hx] at hT KX
    rw [if_pos rfl] at hT
    have HT := Lib.hid hT
    clear hT hx
    go_wp2_with fail
    refine KX.mono ?_
    rintro e w1 ⟨rfl, f1⟩
    have HF1 := Lib.hid f1
    have HF := Lib.hid fr
    clear f1 fr KX
    go_wp2_with fail
    go_ret
    exact ⟨by rw [← HT.out]; rfl, fr_nil HF.out HF1.out⟩
  ·rw [List.drop_eq_nil_of_le (by omega)] at hT
   have HT := Lib.hid hT
   clear hT
   go_wp2_with fail
   go_ret
   exact ⟨by rw [← HT.out]; rfl, fr⟩
theorem contains_ahead_any {A : Option Addr} {c sb : Nat} {l : List Int} (p : Int → Bool) (w : World) (hl : Rd w A (l.map (Value.int .i64))) (hal : l.length ≤ 9223372036854775807) (K : ∀ s ∈ l, ∀ W, Fr (fun _ => False) w W → Calls Tryz.prog 144 #[.pointer (some ⟨sb, 0, none⟩), .int .i64 s] W fun e w' => e = .returned (.bool (p s)) ∧ Fr (fun _ => False) W w') :
  Calls Tryz.prog 143 #[.slice A l.length c, .func (.func 144) #[.pointer (some ⟨sb, 0, none⟩)] #[]] w fun e w' => e = .returned (.bool (l.any p)) ∧ Fr (fun _ => False) w w' := by
 have K := index_ahead_any (c := c) p w hl hal K
 rw [← Mv.firstP_ge p l 0]
 generalize Mv.firstP p l 0 = T at *
 go_enter Tryz.func143, Tryz.ntmps143
 go_wp2_with fail
 refine K.mono ?_
 rintro e w1 ⟨rfl, f1⟩
 go_wp2_with fail
 go_ret
 exact ⟨rfl, f1⟩
set_option maxHeartbeats 1000000 in
theorem index_askedOut_any {A : Option Addr} {c sb : Nat} {l : List Int} (p : Int → Bool) (w : World) (hl : Rd w A (l.map (Value.int .i64))) (hal : l.length ≤ 9223372036854775807) (K : ∀ s ∈ l, ∀ W, Fr (fun _ => False) w W → Calls Tryz.prog 146 #[.pointer (some ⟨sb, 0, none⟩), .int .i64 s] W fun e w' => e = .returned (.bool (p s)) ∧ Fr (fun _ => False) W w') :
  Calls Tryz.prog 197 #[.slice A l.length c, .func (.func 146) #[.pointer (some ⟨sb, 0, none⟩)] #[]] w fun e w' => e = .returned (.int .i64 (Mv.firstP p l 0)) ∧ Fr (fun _ => False) w w' := by
 generalize hT : Mv.firstP p l 0 = T
 have HT := Lib.hid hT
 have HK := Lib.hid K
 clear hT K
 go_enter Tryz.func197, Tryz.ntmps197
 go_wp2_with fail
 go_loopg [5, 8] l.length (fun gi _ i wr => ∃ k : Nat, k ≤ l.length ∧ gi = l.length - k ∧ i = .int .i64 (k : Nat) ∧ Mv.firstP p (l.drop k) k = T ∧ Fr (fun _ => False) w wr)
 case atStart => exact ⟨0, Nat.zero_le _, rfl, rfl, HT.out, Fr.refl _ _⟩
 case round =>
  clear HT
  obtain ⟨k, hk, rfl, rfl, hT, fr⟩ := hrel
  by_cases hlt : k < l.length
  ·obtain ⟨g, o, hA, q0⟩ := rd_int (hl.fr fr fun _ _ => id) hlt
   have KX := HK.out l[k] (List.getElem_mem hlt) wr fr
   rw [List.drop_eq_getElem_cons hlt, Mv.firstP] at hT
   generalize hR : l.drop (k + 1) = R at hT
   have HR := Lib.hid hR
   clear hR
   generalize l[k] = y at *
   have i1 : (0 : Int) ≤ (k : Int) := by omega
   have i2 : (k : Int) < (l.length : Int) := by omega
   rw [hA]
   have HA := Lib.hid hA
   clear hA
   cases hx : p y
   ·rw [hx] at hT KX
    rw [if_neg (by decide)] at hT
    have HT := Lib.hid hT
    clear hT hx
    go_wp2_with fail
    refine KX.mono ?_
    rintro e w1 ⟨rfl, f1⟩
    have HF1 := Lib.hid f1
    have HF := Lib.hid fr
    clear f1 fr KX
    go_wp2_with fail
    rw [← HA.out]
    go_roundg (l.length - (k + 1))
    case measure => omega
    case rel => exact ⟨k + 1, by omega, rfl, by go_num, by rw [HR.out]; exact HT.out, fr_nil HF.out HF1.out⟩
   ·rw [hx] at hT KX
    rw [if_pos rfl] at hT
    have HT := Lib.hid hT
    clear hT hx
    go_wp2_with fail
    refine KX.mono ?_
    rintro e w1 ⟨rfl, f1⟩
    have HF1 := Lib.hid f1
    have HF := Lib.hid fr
    clear f1 fr KX
    go_wp2_with fail
    go_ret
    exact ⟨by rw [← HT.out]; rfl, fr_nil HF.out HF1.out⟩
  ·rw [List.drop_eq_nil_of_le (by omega)] at hT
   have HT := Lib.hid hT
   clear hT
   go_wp2_with fail
   go_ret
   exact ⟨by rw [← HT.out]; rfl, fr⟩
theorem contains_askedOut_any {A : Option Addr} {c sb : Nat} {l : List Int} (p : Int → Bool) (w : World) (hl : Rd w A (l.map (Value.int .i64))) (hal : l.length ≤ 9223372036854775807) (K : ∀ s ∈ l, ∀ W, Fr (fun _ => False) w W → Calls Tryz.prog 146 #[.pointer (some ⟨sb, 0, none⟩), .int .i64 s] W fun e w' => e = .returned (.bool (p s)) ∧ Fr (fun _ => False) W w') :
  Calls Tryz.prog 143 #[.slice A l.length c, .func (.func 146) #[.pointer (some ⟨sb, 0, none⟩)] #[]] w fun e w' => e = .returned (.bool (l.any p)) ∧ Fr (fun _ => False) w w' := by
 have K := index_askedOut_any (c := c) p w hl hal K
 rw [← Mv.firstP_ge p l 0]
 generalize Mv.firstP p l 0 = T at *
 go_enter Tryz.func143, Tryz.ntmps143
 go_wp2_with fail
 refine K.mono ?_
 rintro e w1 ⟨rfl, f1⟩
 go_wp2_with fail
 go_ret
 exact ⟨rfl, f1⟩
end Go.Proofs.YtginfnbdnkgjbaaGreat.Lk
namespace Go.Proofs.YtginfnbdnkgjbaaGreat.Lk
open Go.RowKit
theorem rt_at {C : Cm} {k : Nat} (h : k < C.rs.length) : (C.rs.map Ro.rt).getD k default = C.rs[k].rt := by
 rw [List.getD_eq_getElem?_getD, List.getElem?_eq_getElem (by simpa using h)]
 simp
set_option maxRecDepth 100000 in
set_option maxHeartbeats 4000000 in
theorem inherits_any {w0 w : World} {sb : Nat} {K : Km} {C : Cm} (h : St w0 w sb K C) (hC : C.Ok w) {i j : Nat} (hi : i < C.rs.length) (hj : j < K.own.length) (ho : -2 ≤ K.own[j] ∧ K.own[j] ≤ 9223372036854775807) :
  Calls Tryz.prog 199 #[.pointer (some ⟨sb, 0, none⟩), .int .i64 (i : Int), .int .i64 (j : Int)] w fun e w' => e = .returned (.bool (inhB (C.rs.map Ro.rt) C.rs[i].rt K.own[j] j)) ∧ Fr (fun _ => False) w w' := by
 have c0 : w.cell? ⟨sb, 0, none⟩ = some (.slice K.A1 K.own.length K.c1) := h.is.cell 0
 have p4 := h.nine.2.2.2.2.1
 have HH := Lib.hid h
 have HC := Lib.hid hC
 obtain ⟨g1, hA1, -, -, d0, -, -⟩ := h.own.set1 hj 0
 have KH := fun (x : Int) W => lhast_any (A := C.A5) (c := C.c5) (n := C.rs.length) x W
 rw [hA1] at c0
 have i1 : (0 : Int) ≤ (j : Int) := by omega
 have i2 : (j : Int) < (K.own.length : Int) := by omega
 have i3 : (0 : Int) ≤ (i : Int) := by omega
 have i4 : (i : Int) < (C.rs.length : Int) := by omega
 unfold inhB
 rw [List.length_map]
 generalize K.own[j] = ow at *
 have KH := KH (ow - 1)
 clear h hC hA1
 cases hs : isSecB C.rs.length (ow - 1)
 ·rw [hs] at KH
  rw [Bool.false_and]
  clear hs
  go_enter Tryz.func199, Tryz.ntmps199
  go_wp2_with fail
  refine (KH _).mono ?_
  rintro e w1 ⟨rfl, rfl⟩
  clear KH
  go_wp2_with fail
  go_ret
  exact ⟨rfl, Fr.refl _ _⟩
 ·rw [hs] at KH
  obtain ⟨k, hk, hlt⟩ := isSecB_true hs
  rw [hk, Int.toNat_natCast, rt_at hlt]
  rw [hk] at KH
  have hq := HC.out.each _ (List.getElem_mem hlt)
  obtain ⟨g, p, hA5, r0, r1, r2, r3, r4, r5⟩ := rd_ro HC.out.rts hlt
  obtain ⟨g', p', hA5', t0, -, -, -, -, -⟩ := rd_ro HC.out.rts hi
  rw [hA5] at hA5'
  injection hA5' with e; injection e with e1 e2
  subst e1 e2
  rw [show C.rs[i].rt.entry = C.rs[i].entry from rfl]
  generalize C.rs[i].entry = en at *
  generalize C.rs[k] = q at *
  have j1 : (0 : Int) ≤ (k : Int) := by omega
  have j2 : (k : Int) < (C.rs.length : Int) := by omega
  rw [show q.rt.exit = q.exit from rfl, show q.rt.over = q.over from rfl, Bool.true_and]
  rw [hA5] at p4 KH
  have HA5 := Lib.hid hA5
  have hko : ow = (k : Int) + 1 := by omega
  subst hko
  have hg := World.block_lt_of_cell? _ _ t0
  have hsb := World.block_lt_of_cell? _ _ p4
  have KC := fun W (f : Fr (fun _ => False) w W) => icontains_any (c := q.c3) (j : Int) W (hq.over.fr f fun _ _ => id) (by have := hq.l3; have := hq.k3; omega)
  clear hs hk hlt hA5 hq hi hj
  have F1 := (Fr.refl (fun _ => False) w).alloc (.cells #[.int .i64 q.entry, .int .i64 q.exit, .slice q.a1 q.path.length q.c1, .slice q.a2 q.flank.length q.c2, .slice q.a3 q.over.length q.c3, .bool q.shunt] 74)
  have IB := Is.new w 74 #[.int .i64 q.entry, .int .i64 q.exit, .slice q.a1 q.path.length q.c1, .slice q.a2 q.flank.length q.c2, .slice q.a3 q.over.length q.c3, .bool q.shunt]
  have P4 := (F1.cell (p := ⟨sb, 11, none⟩) hsb id).trans p4
  have T0 := (F1.cell (p := ⟨g, p + i * 6, none⟩) hg id).trans t0
  have HF1 := Lib.hid F1
  have HIB := Lib.hid IB
  have HP4 := Lib.hid P4
  have HT0 := Lib.hid T0
  clear F1 IB P4 T0 t0 hg hsb
  generalize hex : q.exit = ex at *
  by_cases hx : ex = en
  ·subst hx
   rw [decide_eq_true rfl, Bool.true_and]
   go_enter Tryz.func199, Tryz.ntmps199
   go_upto_region 4 with (refine (KH _).mono ?_; rintro e w1 ⟨rfl, rfl⟩)
   go_upto_region 5 with fail
   have F1 := HF1.out
   have IB := HIB.out
   have P4 := HP4.out
   have T0 := HT0.out
   clear HF1 HIB HP4 HT0
   generalize w.alloc _ = wb at *
   generalize w.heap.size = z at *
   have HF1 := Lib.hid F1
   have HIB := Lib.hid IB
   have HP4 := Lib.hid P4
   have HT0 := Lib.hid T0
   have HS : Hid (∀ W, Fr (fun _ => False) wb W → (fun Wx => Wx.cell? ⟨z, 1, none⟩ = some (.int .i64 ex) ∧ Wx.cell? ⟨z, 4, none⟩ = some (.slice q.a3 q.over.length q.c3) ∧ Wx.cell? ⟨sb, 11, none⟩ = some (.slice (some ⟨g, p, none⟩) C.rs.length C.c5) ∧ Wx.cell? ⟨g, p + i * 6, none⟩ = some (.int .i64 ex)) W) := Lib.hid fun W fW => ⟨(HIB.out.fr fW id).cell 1, (HIB.out.fr fW id).cell 4, (fW.cell (p := ⟨sb, 11, none⟩) (World.block_lt_of_cell? _ _ P4) id).trans HP4.out, (fW.cell (p := ⟨g, p + i * 6, none⟩) (World.block_lt_of_cell? _ _ T0) id).trans HT0.out⟩
   clear F1 IB P4 T0 p4 r0 r1 r2 r3 r4 r5
   refine wp_region_held_drew (S := (fun Wx => Wx.cell? ⟨z, 1, none⟩ = some (.int .i64 ex) ∧ Wx.cell? ⟨z, 4, none⟩ = some (.slice q.a3 q.over.length q.c3) ∧ Wx.cell? ⟨sb, 11, none⟩ = some (.slice (some ⟨g, p, none⟩) C.rs.length C.c5) ∧ Wx.cell? ⟨g, p + i * 6, none⟩ = some (.int .i64 ex))) (by kernel_rfl) (HS.out _ (Fr.refl _ wb).drew) (fun hHeld => ?_)
   refine wpAnyH_take (i := 0) (oi := { dst := some 34, op := _, type := _, pos := _, after := _, guard := _ }) (v := ?_) rfl (by kernel_rfl) (by kernel_rfl) (by kernel_rfl) (fun _ _ _ h => h) (Or.inl ⟨by rfl, ?_⟩) (by assumption) ?_
   rotate_left
   ·intro Wx hSw
    try dsimp only at hSw
    go_simp
    try with_reducible rfl
   try simp only [Act.put, List.setIfInBounds_toArray, List.set_cons_zero, List.set_cons_succ]
   refine wpAnyH_take (i := 1) (oi := { dst := some 35, op := _, type := _, pos := _, after := _, guard := _ }) (v := ?_) rfl (by kernel_rfl) (by kernel_rfl) (by kernel_rfl) (fun _ _ _ h => h) (Or.inl ⟨by rfl, ?_⟩) (by assumption) ?_
   rotate_left
   ·intro Wx hSw
    try dsimp only at hSw
    go_simp
    try with_reducible rfl
   try simp only [Act.put, List.setIfInBounds_toArray, List.set_cons_zero, List.set_cons_succ]
   refine wpAnyH_take (i := 2) (oi := { dst := some 36, op := _, type := _, pos := _, after := _, guard := _ }) (v := ?_) rfl (by kernel_rfl) (by kernel_rfl) (by kernel_rfl) (fun _ _ _ h => h) (Or.inl ⟨by rfl, ?_⟩) (by assumption) ?_
   rotate_left
   ·intro Wx hSw
    try dsimp only at hSw
    go_simp
    try with_reducible rfl
   try simp only [Act.put, List.setIfInBounds_toArray, List.set_cons_zero, List.set_cons_succ]
   refine wpAnyH_take (i := 3) (oi := { dst := some 37, op := _, type := _, pos := _, after := _, guard := _ }) (v := ?_) rfl (by kernel_rfl) (by kernel_rfl) (by kernel_rfl) (fun _ _ _ h => h) (Or.inl ⟨by rfl, ?_⟩) (by assumption) ?_
   rotate_left
   ·intro Wx hSw
    try dsimp only at hSw
    go_simp
    try with_reducible rfl
   try simp only [Act.put, List.setIfInBounds_toArray, List.set_cons_zero, List.set_cons_succ]
   refine wpAnyH_take (i := 4) (oi := { dst := some 38, op := _, type := _, pos := _, after := _, guard := _ }) (v := ?_) rfl (by kernel_rfl) (by kernel_rfl) (by kernel_rfl) (fun _ _ _ h => h) (Or.inl ⟨by rfl, ?_⟩) (by assumption) ?_
   rotate_left
   ·intro Wx hSw
    try dsimp only at hSw
    go_simp
    try with_reducible rfl
   try simp only [Act.put, List.setIfInBounds_toArray, List.set_cons_zero, List.set_cons_succ]
   refine wpAnyH_take (i := 5) (oi := { dst := some 39, op := _, type := _, pos := _, after := _, guard := _ }) (v := ?_) rfl (by kernel_rfl) (by kernel_rfl) (by kernel_rfl) (fun _ _ _ h => h) (Or.inl ⟨by rfl, ?_⟩) (by assumption) ?_
   rotate_left
   ·intro Wx hSw
    try dsimp only at hSw
    go_simp
    try with_reducible rfl
   try simp only [Act.put, List.setIfInBounds_toArray, List.set_cons_zero, List.set_cons_succ]
   refine wpAnyH_take (i := 6) (oi := { dst := some 40, op := _, type := _, pos := _, after := _, guard := _ }) (v := ?_) rfl (by kernel_rfl) (by kernel_rfl) (by kernel_rfl) (fun _ _ _ h => h) (Or.inl ⟨by rfl, ?_⟩) (by assumption) ?_
   rotate_left
   ·intro Wx hSw
    try dsimp only at hSw
    go_simp
    try with_reducible rfl
   try simp only [Act.put, List.setIfInBounds_toArray, List.set_cons_zero, List.set_cons_succ]
   refine wpAnyH_take (i := 7) (oi := { dst := some 41, op := _, type := _, pos := _, after := _, guard := _ }) (v := ?_) rfl (by kernel_rfl) (by kernel_rfl) (by kernel_rfl) (fun _ _ _ h => h) (Or.inl ⟨by rfl, ?_⟩) (by assumption) ?_
   rotate_left
   ·intro Wx hSw
    try dsimp only at hSw
    go_simp
    try with_reducible rfl
   try simp only [Act.put, List.setIfInBounds_toArray, List.set_cons_zero, List.set_cons_succ]
   refine wpAnyH_take (i := 8) (oi := { dst := some 42, op := _, type := _, pos := _, after := _, guard := _ }) (v := ?_) rfl (by kernel_rfl) (by kernel_rfl) (by kernel_rfl) (fun _ _ _ h => h) (Or.inl ⟨by rfl, ?_⟩) (by assumption) ?_
   rotate_left
   ·intro Wx hSw
    try dsimp only at hSw
    go_simp
    try with_reducible rfl
   try simp only [Act.put, List.setIfInBounds_toArray, List.set_cons_zero, List.set_cons_succ]
   refine wpAnyH_take (i := 9) (oi := { dst := some 43, op := _, type := _, pos := _, after := _, guard := _ }) (v := ?_) rfl (by kernel_rfl) (by kernel_rfl) (by kernel_rfl) (fun _ _ _ h => h) (Or.inl ⟨by rfl, ?_⟩) (by assumption) ?_
   rotate_left
   ·intro Wx hSw
    try dsimp only at hSw
    go_simp
    try with_reducible rfl
   try simp only [Act.put, List.setIfInBounds_toArray, List.set_cons_zero, List.set_cons_succ]
   refine wpAnyH_take (i := 10) (oi := { dst := some 44, op := _, type := _, pos := _, after := _, guard := _ }) (v := ?_) rfl (by kernel_rfl) (by kernel_rfl) (by kernel_rfl) (fun _ _ _ h => h) (Or.inl ⟨by rfl, ?_⟩) (by assumption) ?_
   rotate_left
   ·intro Wx hSw
    try dsimp only at hSw
    go_simp
    try with_reducible rfl
   try simp only [Act.put, List.setIfInBounds_toArray, List.set_cons_zero, List.set_cons_succ]
   refine wpAnyH_take (i := 11) (oi := { dst := some 45, op := _, type := _, pos := _, after := _, guard := _ }) (v := ?_) rfl (by kernel_rfl) (by kernel_rfl) (by kernel_rfl) (fun _ _ _ h => h) (Or.inl ⟨by rfl, ?_⟩) (by assumption) ?_
   rotate_left
   ·intro Wx hSw
    try dsimp only at hSw
    go_simp
    try with_reducible rfl
   try simp only [Act.put, List.setIfInBounds_toArray, List.set_cons_zero, List.set_cons_succ]
   refine wpAnyH_take (i := 12) (oi := { dst := some 46, op := _, type := _, pos := _, after := _, guard := _ }) (v := ?_) rfl (by kernel_rfl) (by kernel_rfl) (by kernel_rfl) (fun _ _ _ h => h) (Or.inl ⟨by rfl, ?_⟩) (by assumption) ?_
   rotate_left
   ·intro Wx hSw
    try dsimp only at hSw
    go_simp
    try with_reducible rfl
   try simp only [Act.put, List.setIfInBounds_toArray, List.set_cons_zero, List.set_cons_succ]
   refine wpAnyH_take (i := 13) (oi := { dst := some 47, op := _, type := _, pos := _, after := _, guard := _ }) (v := ?_) rfl (by kernel_rfl) (by kernel_rfl) (by kernel_rfl) (fun _ _ _ h => h) (Or.inl ⟨by rfl, ?_⟩) (by assumption) ?_
   rotate_left
   ·intro Wx hSw
    try dsimp only at hSw
    go_simp
    try with_reducible rfl
   try simp only [Act.put, List.setIfInBounds_toArray, List.set_cons_zero, List.set_cons_succ]
   refine wpAnyH_take (i := 14) (oi := { dst := some 48, op := _, type := _, pos := _, after := _, guard := _ }) (v := ?_) rfl (by kernel_rfl) (by kernel_rfl) (by kernel_rfl) (fun _ _ _ h => h) (Or.inl ⟨by rfl, ?_⟩) (by assumption) ?_
   rotate_left
   ·intro Wx hSw
    try dsimp only at hSw
    go_simp
    try with_reducible rfl
   try simp only [Act.put, List.setIfInBounds_toArray, List.set_cons_zero, List.set_cons_succ]
   refine wpAnyH_take (i := 15) (oi := { dst := some 49, op := _, type := _, pos := _, after := _, guard := _ }) (v := ?_) rfl (by kernel_rfl) (by kernel_rfl) (by kernel_rfl) (fun _ _ _ h => h) (Or.inl ⟨by rfl, ?_⟩) (by assumption) ?_
   rotate_left
   ·intro Wx hSw
    try dsimp only at hSw
    go_simp
    try with_reducible rfl
   try simp only [Act.put, List.setIfInBounds_toArray, List.set_cons_zero, List.set_cons_succ]
   refine wpAnyH_ready (rs := [16]) (by kernel_rfl) (by simp) (AllReadyH.cons rfl (fun KK hKK => ?_) AllReadyH.nil)
   go_simp
   refine (KC _ HF1.out.drew).mono ?_
   rintro e v ⟨rfl, rfl⟩
   go_simp
   refine hKK.out _ _ hHeld (fun hHeld => ?_)
   clear hKK KK KC
   refine wpAnyH_take (i := 17) (oi := { dst := some 51, op := _, type := _, pos := _, after := _, guard := _ }) (v := ?_) rfl (by kernel_rfl) (by kernel_rfl) (by kernel_rfl) (fun _ _ _ h => h) (Or.inl ⟨by rfl, ?_⟩) (by assumption) ?_
   rotate_left
   ·intro Wx hSw
    try dsimp only at hSw
    go_simp
    try with_reducible rfl
   try simp only [Act.put, List.setIfInBounds_toArray, List.set_cons_zero, List.set_cons_succ]
   refine wpAnyH_take (i := 18) (oi := { dst := some 6, op := _, type := _, pos := _, after := _, guard := _ }) (v := ?_) rfl (by kernel_rfl) (by kernel_rfl) (by kernel_rfl) (fun _ _ _ h => h) (Or.inl ⟨by rfl, ?_⟩) (by assumption) ?_
   rotate_left
   ·intro Wx hSw
    try dsimp only at hSw
    go_simp
    try with_reducible rfl
   try simp only [Act.put, List.setIfInBounds_toArray, List.set_cons_zero, List.set_cons_succ]
   refine wpAnyH_done (by kernel_rfl) ?_ _
   go_wp2_with fail
   go_ret
   exact ⟨rfl, HF1.out.drew⟩
  ·rw [decide_eq_false hx, Bool.false_and]
   have e1 : (ex == en) = false := by simpa using hx
   have e2 : decide (ex = en) = false := decide_eq_false hx
   clear KC
   go_enter Tryz.func199, Tryz.ntmps199
   go_upto_region 4 with (refine (KH _).mono ?_; rintro e w1 ⟨rfl, rfl⟩)
   go_upto_region 5 with fail
   have F1 := HF1.out
   have IB := HIB.out
   have P4 := HP4.out
   have T0 := HT0.out
   clear HF1 HIB HP4 HT0
   generalize w.alloc _ = wb at *
   generalize w.heap.size = z at *
   have HF1 := Lib.hid F1
   have HIB := Lib.hid IB
   have HP4 := Lib.hid P4
   have HT0 := Lib.hid T0
   have HS : Hid (∀ W, Fr (fun _ => False) wb W → (fun Wx => Wx.cell? ⟨z, 1, none⟩ = some (.int .i64 ex) ∧ Wx.cell? ⟨z, 4, none⟩ = some (.slice q.a3 q.over.length q.c3) ∧ Wx.cell? ⟨sb, 11, none⟩ = some (.slice (some ⟨g, p, none⟩) C.rs.length C.c5) ∧ Wx.cell? ⟨g, p + i * 6, none⟩ = some (.int .i64 en)) W) := Lib.hid fun W fW => ⟨(HIB.out.fr fW id).cell 1, (HIB.out.fr fW id).cell 4, (fW.cell (p := ⟨sb, 11, none⟩) (World.block_lt_of_cell? _ _ P4) id).trans HP4.out, (fW.cell (p := ⟨g, p + i * 6, none⟩) (World.block_lt_of_cell? _ _ T0) id).trans HT0.out⟩
   clear F1 IB P4 T0 p4 r0 r1 r2 r3 r4 r5
   refine wp_region_held_drew (S := (fun Wx => Wx.cell? ⟨z, 1, none⟩ = some (.int .i64 ex) ∧ Wx.cell? ⟨z, 4, none⟩ = some (.slice q.a3 q.over.length q.c3) ∧ Wx.cell? ⟨sb, 11, none⟩ = some (.slice (some ⟨g, p, none⟩) C.rs.length C.c5) ∧ Wx.cell? ⟨g, p + i * 6, none⟩ = some (.int .i64 en))) (by kernel_rfl) (HS.out _ (Fr.refl _ wb).drew) (fun hHeld => ?_)
   refine wpAnyH_take (i := 0) (oi := { dst := some 34, op := _, type := _, pos := _, after := _, guard := _ }) (v := ?_) rfl (by kernel_rfl) (by kernel_rfl) (by kernel_rfl) (fun _ _ _ h => h) (Or.inl ⟨by rfl, ?_⟩) (by assumption) ?_
   rotate_left
   ·intro Wx hSw
    try dsimp only at hSw
    go_simp
    try with_reducible rfl
   try simp only [Act.put, List.setIfInBounds_toArray, List.set_cons_zero, List.set_cons_succ]
   refine wpAnyH_take (i := 1) (oi := { dst := some 35, op := _, type := _, pos := _, after := _, guard := _ }) (v := ?_) rfl (by kernel_rfl) (by kernel_rfl) (by kernel_rfl) (fun _ _ _ h => h) (Or.inl ⟨by rfl, ?_⟩) (by assumption) ?_
   rotate_left
   ·intro Wx hSw
    try dsimp only at hSw
    go_simp
    try with_reducible rfl
   try simp only [Act.put, List.setIfInBounds_toArray, List.set_cons_zero, List.set_cons_succ]
   refine wpAnyH_take (i := 2) (oi := { dst := some 36, op := _, type := _, pos := _, after := _, guard := _ }) (v := ?_) rfl (by kernel_rfl) (by kernel_rfl) (by kernel_rfl) (fun _ _ _ h => h) (Or.inl ⟨by rfl, ?_⟩) (by assumption) ?_
   rotate_left
   ·intro Wx hSw
    try dsimp only at hSw
    go_simp
    try with_reducible rfl
   try simp only [Act.put, List.setIfInBounds_toArray, List.set_cons_zero, List.set_cons_succ]
   refine wpAnyH_take (i := 3) (oi := { dst := some 37, op := _, type := _, pos := _, after := _, guard := _ }) (v := ?_) rfl (by kernel_rfl) (by kernel_rfl) (by kernel_rfl) (fun _ _ _ h => h) (Or.inl ⟨by rfl, ?_⟩) (by assumption) ?_
   rotate_left
   ·intro Wx hSw
    try dsimp only at hSw
    go_simp
    try with_reducible rfl
   try simp only [Act.put, List.setIfInBounds_toArray, List.set_cons_zero, List.set_cons_succ]
   refine wpAnyH_take (i := 4) (oi := { dst := some 38, op := _, type := _, pos := _, after := _, guard := _ }) (v := ?_) rfl (by kernel_rfl) (by kernel_rfl) (by kernel_rfl) (fun _ _ _ h => h) (Or.inl ⟨by rfl, ?_⟩) (by assumption) ?_
   rotate_left
   ·intro Wx hSw
    try dsimp only at hSw
    go_simp
    try with_reducible rfl
   try simp only [Act.put, List.setIfInBounds_toArray, List.set_cons_zero, List.set_cons_succ]
   refine wpAnyH_take (i := 5) (oi := { dst := some 39, op := _, type := _, pos := _, after := _, guard := _ }) (v := ?_) rfl (by kernel_rfl) (by kernel_rfl) (by kernel_rfl) (fun _ _ _ h => h) (Or.inl ⟨by rfl, ?_⟩) (by assumption) ?_
   rotate_left
   ·intro Wx hSw
    try dsimp only at hSw
    go_simp
    try with_reducible rfl
   try simp only [Act.put, List.setIfInBounds_toArray, List.set_cons_zero, List.set_cons_succ]
   refine wpAnyH_take (i := 6) (oi := { dst := some 40, op := _, type := _, pos := _, after := _, guard := _ }) (v := ?_) rfl (by kernel_rfl) (by kernel_rfl) (by kernel_rfl) (fun _ _ _ h => h) (Or.inl ⟨by rfl, ?_⟩) (by assumption) ?_
   rotate_left
   ·intro Wx hSw
    try dsimp only at hSw
    go_simp
    try with_reducible rfl
   try simp only [Act.put, List.setIfInBounds_toArray, List.set_cons_zero, List.set_cons_succ]
   refine wpAnyH_take (i := 7) (oi := { dst := some 41, op := _, type := _, pos := _, after := _, guard := _ }) (v := ?_) rfl (by kernel_rfl) (by kernel_rfl) (by kernel_rfl) (fun _ _ _ h => h) (Or.inl ⟨by rfl, ?_⟩) (by assumption) ?_
   rotate_left
   ·intro Wx hSw
    try dsimp only at hSw
    go_simp
    try with_reducible rfl
   try simp only [Act.put, List.setIfInBounds_toArray, List.set_cons_zero, List.set_cons_succ]
   refine wpAnyH_take (i := 8) (oi := { dst := some 42, op := _, type := _, pos := _, after := _, guard := _ }) (v := ?_) rfl (by kernel_rfl) (by kernel_rfl) (by kernel_rfl) (fun _ _ _ h => h) (Or.inl ⟨by rfl, ?_⟩) (by assumption) ?_
   rotate_left
   ·intro Wx hSw
    try dsimp only at hSw
    go_simp
    try with_reducible rfl
   try simp only [Act.put, List.setIfInBounds_toArray, List.set_cons_zero, List.set_cons_succ]
   refine wpAnyH_take (i := 9) (oi := { dst := some 43, op := _, type := _, pos := _, after := _, guard := _ }) (v := ?_) rfl (by kernel_rfl) (by kernel_rfl) (by kernel_rfl) (fun _ _ _ h => h) (Or.inl ⟨by rfl, ?_⟩) (by assumption) ?_
   rotate_left
   ·intro Wx hSw
    try dsimp only at hSw
    go_simp
    try with_reducible rfl
   try simp only [Act.put, List.setIfInBounds_toArray, List.set_cons_zero, List.set_cons_succ]
   refine wpAnyH_take (i := 10) (oi := { dst := some 44, op := _, type := _, pos := _, after := _, guard := _ }) (v := ?_) rfl (by kernel_rfl) (by kernel_rfl) (by kernel_rfl) (fun _ _ _ h => h) (Or.inl ⟨by rfl, ?_⟩) (by assumption) ?_
   rotate_left
   ·intro Wx hSw
    try dsimp only at hSw
    go_simp
    try with_reducible rfl
   try simp only [Act.put, List.setIfInBounds_toArray, List.set_cons_zero, List.set_cons_succ]
   refine wpAnyH_take (i := 11) (oi := { dst := some 45, op := _, type := _, pos := _, after := _, guard := _ }) (v := ?_) rfl (by kernel_rfl) (by kernel_rfl) (by kernel_rfl) (fun _ _ _ h => h) (Or.inl ⟨by rfl, ?_⟩) (by assumption) ?_
   rotate_left
   ·intro Wx hSw
    try dsimp only at hSw
    go_simp
    try with_reducible rfl
   try simp only [Act.put, List.setIfInBounds_toArray, List.set_cons_zero, List.set_cons_succ]
   refine wpAnyH_take (i := 12) (oi := { dst := some 46, op := _, type := _, pos := _, after := _, guard := _ }) (v := ?_) rfl (by kernel_rfl) (by kernel_rfl) (by kernel_rfl) (fun _ _ _ h => h) (Or.inl ⟨by rfl, ?_⟩) (by assumption) ?_
   rotate_left
   ·intro Wx hSw
    try dsimp only at hSw
    go_simp
    try with_reducible rfl
   try simp only [Act.put, List.setIfInBounds_toArray, List.set_cons_zero, List.set_cons_succ]
   refine wpAnyH_take (i := 13) (oi := { dst := some 47, op := _, type := _, pos := _, after := _, guard := _ }) (v := undef) rfl (by kernel_rfl) (by kernel_rfl) (by kernel_rfl) (fun _ _ _ h => h) (Or.inr ⟨by kernel_rfl, rfl⟩) (by assumption) ?_
   try simp only [Act.put, List.setIfInBounds_toArray, List.set_cons_zero, List.set_cons_succ]
   refine wpAnyH_take (i := 14) (oi := { dst := some 48, op := _, type := _, pos := _, after := _, guard := _ }) (v := undef) rfl (by kernel_rfl) (by kernel_rfl) (by kernel_rfl) (fun _ _ _ h => h) (Or.inr ⟨by kernel_rfl, rfl⟩) (by assumption) ?_
   try simp only [Act.put, List.setIfInBounds_toArray, List.set_cons_zero, List.set_cons_succ]
   refine wpAnyH_take (i := 15) (oi := { dst := some 49, op := _, type := _, pos := _, after := _, guard := _ }) (v := undef) rfl (by kernel_rfl) (by kernel_rfl) (by kernel_rfl) (fun _ _ _ h => h) (Or.inr ⟨by kernel_rfl, rfl⟩) (by assumption) ?_
   try simp only [Act.put, List.setIfInBounds_toArray, List.set_cons_zero, List.set_cons_succ]
   refine wpAnyH_take (i := 16) (oi := { dst := some 50, op := _, type := _, pos := _, after := _, guard := _ }) (v := undef) rfl (by kernel_rfl) (by kernel_rfl) (by kernel_rfl) (fun _ _ _ h => h) (Or.inr ⟨by kernel_rfl, rfl⟩) (by assumption) ?_
   try simp only [Act.put, List.setIfInBounds_toArray, List.set_cons_zero, List.set_cons_succ]
   refine wpAnyH_take (i := 17) (oi := { dst := some 51, op := _, type := _, pos := _, after := _, guard := _ }) (v := ?_) rfl (by kernel_rfl) (by kernel_rfl) (by kernel_rfl) (fun _ _ _ h => h) (Or.inl ⟨by rfl, ?_⟩) (by assumption) ?_
   rotate_left
   ·intro Wx hSw
    try dsimp only at hSw
    go_simp
    try with_reducible rfl
   try simp only [Act.put, List.setIfInBounds_toArray, List.set_cons_zero, List.set_cons_succ]
   refine wpAnyH_take (i := 18) (oi := { dst := some 6, op := _, type := _, pos := _, after := _, guard := _ }) (v := ?_) rfl (by kernel_rfl) (by kernel_rfl) (by kernel_rfl) (fun _ _ _ h => h) (Or.inl ⟨by rfl, ?_⟩) (by assumption) ?_
   rotate_left
   ·intro Wx hSw
    try dsimp only at hSw
    go_simp
    try with_reducible rfl
   try simp only [Act.put, List.setIfInBounds_toArray, List.set_cons_zero, List.set_cons_succ]
   refine wpAnyH_done (by kernel_rfl) ?_ _
   go_wp2_with fail
   go_ret
   exact ⟨rfl, HF1.out.drew⟩
end Go.Proofs.YtginfnbdnkgjbaaGreat.Lk
namespace Go.Proofs.YtginfnbdnkgjbaaGreat.Lk
open Go.RowKit
set_option maxRecDepth 100000 in
set_option maxHeartbeats 4000000 in
theorem cantake_any {w0 w : World} {sb : Nat} {K : Km} {C : Cm} (h : St w0 w sb K C) (hC : C.Ok w) {i : Nat} (hi : i < C.rs.length) (ho : ∀ o ∈ K.own, -2 ≤ o ∧ o ≤ 9223372036854775807) {A : Option Addr} {c : Nat} (l : List Int) (hl : l.length ≤ 9223372036854775807) (hA : Rd w A (l.map (Value.int .i64))) (hs : ∀ s ∈ l, 0 ≤ s ∧ s < K.own.length) :
  Calls Tryz.prog 145 #[.pointer (some ⟨sb, 0, none⟩), .int .i64 (i : Int), .slice A l.length c] w fun e w' => e = .returned (.bool (l.all (canB (C.rs.map Ro.rt) K.own C.rs[i].rt))) ∧ Fr (fun _ => False) w w' := by
 generalize hT : l.all (canB (C.rs.map Ro.rt) K.own C.rs[i].rt) = T
 have HT := Lib.hid hT
 have HH := Lib.hid h
 have HC := Lib.hid hC
 have HO := Lib.hid ho
 clear hT h hC ho
 go_enter Tryz.func145, Tryz.ntmps145
 go_wp2_with fail
 go_loopg [8, 11] l.length (fun gi _ v11 wr => ∃ k : Nat, k ≤ l.length ∧ gi = l.length - k ∧ v11 = .int .i64 (k : Nat) ∧ (l.drop k).all (canB (C.rs.map Ro.rt) K.own C.rs[i].rt) = T ∧ Fr (fun _ => False) w wr)
 case atStart => exact ⟨0, Nat.zero_le _, rfl, rfl, HT.out, Fr.refl _ _⟩
 case round =>
  clear HT
  obtain ⟨k, hk, rfl, rfl, hT, f⟩ := hrel
  by_cases hlt : k < l.length
  ·obtain ⟨g, p, hA1, q0⟩ := rd_int (hA.fr f fun _ _ => id) hlt
   have hx := hs l[k] (List.getElem_mem hlt)
   rw [List.drop_eq_getElem_cons hlt, List.all_cons] at hT
   generalize hR : (l.drop (k + 1)).all (canB (C.rs.map Ro.rt) K.own C.rs[i].rt) = R at hT
   have HR := Lib.hid hR
   clear hR
   generalize l[k] = x at *
   obtain ⟨j, rfl⟩ := Int.eq_ofNat_of_zero_le hx.1
   have hj : j < K.own.length := by omega
   unfold canB at hT
   rw [ownAt_lt hj] at hT
   have KI := fun W (fW : Fr (fun _ => False) wr W) => inherits_any (HH.out.fr (f.trans fW fun _ _ e => e)) (HC.out.fr (f.trans fW fun _ _ e => e)) hi hj (HO.out _ (List.getElem_mem hj))
   obtain ⟨g1, hB, -, -, d1, -, -⟩ := (HH.out.fr f).own.set1 hj 0
   have cl : wr.cell? ⟨sb, 0, none⟩ = some (.slice (some ⟨g1, 0, none⟩) K.own.length K.c1) := by
    have := (HH.out.fr f).is.cell 0
    simpa [stArr, hB] using this
   have i1 : (0 : Int) ≤ (k : Int) := by omega
   have i2 : (k : Int) < (l.length : Int) := by omega
   have j1 : (0 : Int) ≤ (j : Int) := by omega
   have j2 : (j : Int) < (K.own.length : Int) := by omega
   generalize inhB (C.rs.map Ro.rt) C.rs[i].rt K.own[j] (j : Int) = b at *
   generalize K.own[j] = ow at *
   rw [hA1]
   have HA1 := Lib.hid hA1
   have HF := Lib.hid f
   clear hA1 hB hx hj f
   by_cases h0 : ow = 0
   ·subst h0
    rw [decide_eq_true rfl, Bool.true_or, Bool.true_and] at hT
    have HT := Lib.hid hT
    clear hT KI
    go_wp2_with fail
    rw [← HA1.out]
    go_roundg (l.length - (k + 1))
    case measure => omega
    case rel => exact ⟨k + 1, by omega, rfl, by go_num, HR.out.trans HT.out, HF.out⟩
   ·have e1 : (ow == 0) = false := by simpa using h0
    have e2 : decide (ow = 0) = false := decide_eq_false h0
    rw [e2, Bool.false_or] at hT
    cases b
    ·rw [Bool.false_and] at hT
     subst hT
     go_wp2_with fail
     refine (KI _ (Fr.refl _ _)).mono ?_
     rintro e v ⟨rfl, fv⟩
     have HFV := Lib.hid fv
     clear fv KI
     go_wp2_with fail
     go_ret
     exact ⟨rfl, HF.out.trans HFV.out fun _ _ e => e⟩
    ·rw [Bool.true_and] at hT
     have HT := Lib.hid hT
     clear hT
     go_wp2_with fail
     refine (KI _ (Fr.refl _ _)).mono ?_
     rintro e v ⟨rfl, fv⟩
     have HFV := Lib.hid fv
     clear fv KI
     go_wp2_with fail
     rw [← HA1.out]
     go_roundg (l.length - (k + 1))
     case measure => omega
     case rel => exact ⟨k + 1, by omega, rfl, by go_num, HR.out.trans HT.out, HF.out.trans HFV.out fun _ _ e => e⟩
  ·rw [List.drop_eq_nil_of_le (by omega)] at hT
   obtain rfl : T = true := by rw [← hT]; rfl
   go_wp2_with fail
   go_ret
   exact ⟨rfl, f⟩
end Go.Proofs.YtginfnbdnkgjbaaGreat.Lk
namespace Go.Proofs.YtginfnbdnkgjbaaGreat.Lk
open Go.RowKit
def linT (l : List Sec) (p : List Go.Proofs.YtginfnbdnkgjbaaGreat.St) (k : Nat) : List Int := ((p.take k).map fun s => lineOf l s.sec.toNat).filter fun n => decide (n ≠ 0)
theorem linT_snoc (l : List Sec) (p : List Go.Proofs.YtginfnbdnkgjbaaGreat.St) (k : Nat) (h : k < p.length) : linT l p (k + 1) = linT l p k ++ (if lineOf l p[k].sec.toNat = 0 then [] else [lineOf l p[k].sec.toNat]) := by
 unfold linT
 rw [List.take_succ_eq_append_getElem h, List.map_append, List.filter_append]
 congr 1
 by_cases h0 : lineOf l p[k].sec.toNat = 0 <;> simp [h0]
theorem linT_le (l : List Sec) (p : List Go.Proofs.YtginfnbdnkgjbaaGreat.St) (k : Nat) : (linT l p k).length ≤ k := by
 unfold linT
 refine Nat.le_trans (List.length_filter_le _ _) ?_
 simp; omega
set_option maxRecDepth 100000 in
set_option maxHeartbeats 8000000 in
theorem outlines_any {w0 w : World} {sb : Nat} {K : Km} {C : Cm} (h : St w0 w sb K C) (hC : C.Ok w) {i : Nat} (hi : i < C.rs.length) (hp : ∀ x ∈ C.rs[i].path, 0 ≤ x.sec ∧ x.sec < C.l.length) :
  Calls Tryz.prog 142 #[.pointer (some ⟨sb, 0, none⟩), .int .i64 (i : Int)] w (Mv.NmsE w.heap.size (linT C.l C.rs[i].path C.rs[i].path.length) w) := by
 have c11 := h.nine.2.2.2.2.1
 have HH := Lib.hid h
 have HC := Lib.hid hC
 have hq := hC.each _ (List.getElem_mem hi)
 obtain ⟨g, p, hA5, -, -, r2, -, -, -⟩ := rd_ro hC.rts hi
 have i3 : (0 : Int) ≤ (i : Int) := by omega
 have i4 : (i : Int) < (C.rs.length : Int) := by omega
 rw [hA5] at c11
 have HP := Lib.hid hp
 clear hp
 generalize C.rs[i] = q at *
 have hpr := hq.path
 have hb1 := hq.b1
 have hpl : q.path.length ≤ 9223372036854775807 := by omega
 generalize q.path = path at *
 generalize hN : linT C.l path path.length = T
 have HN0 := Lib.hid hN
 have HB1 := Lib.hid hb1
 clear hN h hC hq hA5 hi hb1
 go_enter Tryz.func142, Tryz.ntmps142
 go_wp2_with fail
 clear c11 r2 i3 i4
 go_loopg [5, 7, 8, 19] path.length (fun gh v5 _ _ v wr => ∃ k : Nat, k ≤ path.length ∧ gh = path.length - k ∧ v = .int .i64 (k : Nat) ∧ Mv.Nms w.heap.size (linT C.l path k) wr v5 ∧ Fr (fun _ => False) w wr)
 case atStart => exact ⟨0, Nat.zero_le _, rfl, rfl, Mv.Nms.nil _ _, Fr.refl _ _⟩
 case round =>
  obtain ⟨k, hk, rfl, rfl, ⟨A, c, rfl, hown⟩, f⟩ := hrel
  by_cases hlt : k < path.length
  ·obtain ⟨gp, op, ea, q0, q1, q2⟩ := rd_st (hpr.fr f fun _ _ => id) hlt
   have hx := HP.out path[k] (List.getElem_mem hlt)
   have HSN := Lib.hid (linT_snoc C.l path k hlt)
   have HLE := Lib.hid (linT_le C.l path k)
   have HLT := Lib.hid hlt
   generalize path[k] = x at *
   obtain ⟨s, s1, s2⟩ := x
   dsimp only at hx q0 q1 q2
   obtain ⟨j, rfl⟩ := Int.eq_ofNat_of_zero_le hx.1
   have hj : j < C.l.length := by omega
   obtain ⟨gs, os, hA1, -, -, t2⟩ := rd_sec (HC.out.fr f).secs hj
   have j1 : (0 : Int) ≤ (j : Int) := by omega
   have j2 : (j : Int) < (C.l.length : Int) := by omega
   have HLN : Hid (lineOf C.l j = C.l[j].line) := Lib.hid (lineOf_at hj)
   generalize C.l[j].line = ln at *
   have i1 : (0 : Int) ≤ (k : Int) := by omega
   have i2 : (k : Int) < (path.length : Int) := by omega
   have c7 := (HH.out.fr f).nine.1
   rw [hA1] at c7
   rw [ea]
   have HEA := Lib.hid ea
   have F1 := (Fr.refl (fun _ => False) wr).alloc (.cells #[.int .i64 (j : Int), .int .i64 s1, .int .i64 s2] 76)
   have IB := Is.new wr 76 #[.int .i64 (j : Int), .int .i64 s1, .int .i64 s2]
   have P7 := (F1.cell (p := ⟨sb, 7, none⟩) (World.block_lt_of_cell? _ _ c7) id).trans c7
   have T2 := (F1.cell (p := ⟨gs, os + j * 3 + 2, none⟩) (World.block_lt_of_cell? _ _ t2) id).trans t2
   have HF1 := Lib.hid F1
   have HIB := Lib.hid IB
   have HP7 := Lib.hid P7
   have HT2 := Lib.hid T2
   have HOWN := Lib.hid hown
   have HF := Lib.hid f
   clear F1 IB P7 T2 hx hA1 ea c7 t2 hown f
   go_upto_region 5 with fail
   have F1 := HF1.out
   have IB := HIB.out
   have P7 := HP7.out
   have T2 := HT2.out
   have hown := wide_fr HOWN.out F1 fun _ _ => id
   have f := fr_nil HF.out F1
   clear HF1 HIB HP7 HT2 HOWN HF
   generalize wr.alloc _ = wb at *
   generalize wr.heap.size = z at *
   have HIB := Lib.hid IB
   have HP7 := Lib.hid P7
   have HT2 := Lib.hid T2
   have HS : Hid (∀ W, Fr (fun _ => False) wb W → (fun Wx => Wx.cell? ⟨sb, 7, none⟩ = some (.slice (some ⟨gs, os, none⟩) C.l.length C.c1) ∧ Wx.cell? ⟨z, 0, none⟩ = some (.int .i64 (j : Int)) ∧ Wx.cell? ⟨gs, os + j * 3 + 2, none⟩ = some (.int .i64 ln)) W) := Lib.hid fun W fW => ⟨(fW.cell (p := ⟨sb, 7, none⟩) (World.block_lt_of_cell? _ _ P7) id).trans HP7.out, (HIB.out.fr fW id).cell 0, (fW.cell (p := ⟨gs, os + j * 3 + 2, none⟩) (World.block_lt_of_cell? _ _ T2) id).trans HT2.out⟩
   have HOWN := Lib.hid (wide_fr hown ((Fr.refl (fun _ => False) wb).drew) fun _ _ => id)
   have HF := Lib.hid f.drew
   clear F1 IB P7 T2 q0 q1 q2 hown f
   refine wp_region_held_drew (S := (fun Wx => Wx.cell? ⟨sb, 7, none⟩ = some (.slice (some ⟨gs, os, none⟩) C.l.length C.c1) ∧ Wx.cell? ⟨z, 0, none⟩ = some (.int .i64 (j : Int)) ∧ Wx.cell? ⟨gs, os + j * 3 + 2, none⟩ = some (.int .i64 ln))) (by kernel_rfl) (HS.out _ (Fr.refl _ wb).drew) (fun hHeld => ?_)
   refine wpAnyH_take (i := 0) (oi := { dst := some 23, op := _, type := _, pos := _, after := _, guard := _ }) (v := ?_) rfl (by kernel_rfl) (by kernel_rfl) (by kernel_rfl) (fun _ _ _ h => h) (Or.inl ⟨by rfl, ?_⟩) (by assumption) ?_
   rotate_left
   ·intro Wx hSw
    try dsimp only at hSw
    go_simp
    try with_reducible rfl
   try simp only [Act.put, List.setIfInBounds_toArray, List.set_cons_zero, List.set_cons_succ]
   refine wpAnyH_take (i := 1) (oi := { dst := some 24, op := _, type := _, pos := _, after := _, guard := _ }) (v := ?_) rfl (by kernel_rfl) (by kernel_rfl) (by kernel_rfl) (fun _ _ _ h => h) (Or.inl ⟨by rfl, ?_⟩) (by assumption) ?_
   rotate_left
   ·intro Wx hSw
    try dsimp only at hSw
    go_simp
    try with_reducible rfl
   try simp only [Act.put, List.setIfInBounds_toArray, List.set_cons_zero, List.set_cons_succ]
   refine wpAnyH_take (i := 2) (oi := { dst := some 25, op := _, type := _, pos := _, after := _, guard := _ }) (v := ?_) rfl (by kernel_rfl) (by kernel_rfl) (by kernel_rfl) (fun _ _ _ h => h) (Or.inl ⟨by rfl, ?_⟩) (by assumption) ?_
   rotate_left
   ·intro Wx hSw
    try dsimp only at hSw
    go_simp
    try with_reducible rfl
   try simp only [Act.put, List.setIfInBounds_toArray, List.set_cons_zero, List.set_cons_succ]
   refine wpAnyH_take (i := 3) (oi := { dst := some 26, op := _, type := _, pos := _, after := _, guard := _ }) (v := ?_) rfl (by kernel_rfl) (by kernel_rfl) (by kernel_rfl) (fun _ _ _ h => h) (Or.inl ⟨by rfl, ?_⟩) (by assumption) ?_
   rotate_left
   ·intro Wx hSw
    try dsimp only at hSw
    go_simp
    try with_reducible rfl
   try simp only [Act.put, List.setIfInBounds_toArray, List.set_cons_zero, List.set_cons_succ]
   refine wpAnyH_take (i := 4) (oi := { dst := some 27, op := _, type := _, pos := _, after := _, guard := _ }) (v := ?_) rfl (by kernel_rfl) (by kernel_rfl) (by kernel_rfl) (fun _ _ _ h => h) (Or.inl ⟨by rfl, ?_⟩) (by assumption) ?_
   rotate_left
   ·intro Wx hSw
    try dsimp only at hSw
    go_simp
    try with_reducible rfl
   try simp only [Act.put, List.setIfInBounds_toArray, List.set_cons_zero, List.set_cons_succ]
   refine wpAnyH_take (i := 5) (oi := { dst := some 28, op := _, type := _, pos := _, after := _, guard := _ }) (v := ?_) rfl (by kernel_rfl) (by kernel_rfl) (by kernel_rfl) (fun _ _ _ h => h) (Or.inl ⟨by rfl, ?_⟩) (by assumption) ?_
   rotate_left
   ·intro Wx hSw
    try dsimp only at hSw
    go_simp
    try with_reducible rfl
   try simp only [Act.put, List.setIfInBounds_toArray, List.set_cons_zero, List.set_cons_succ]
   refine wpAnyH_take (i := 6) (oi := { dst := some 29, op := _, type := _, pos := _, after := _, guard := _ }) (v := ?_) rfl (by kernel_rfl) (by kernel_rfl) (by kernel_rfl) (fun _ _ _ h => h) (Or.inl ⟨by rfl, ?_⟩) (by assumption) ?_
   rotate_left
   ·intro Wx hSw
    try dsimp only at hSw
    go_simp
    try with_reducible rfl
   try simp only [Act.put, List.setIfInBounds_toArray, List.set_cons_zero, List.set_cons_succ]
   refine wpAnyH_take (i := 7) (oi := { dst := some 30, op := _, type := _, pos := _, after := _, guard := _ }) (v := ?_) rfl (by kernel_rfl) (by kernel_rfl) (by kernel_rfl) (fun _ _ _ h => h) (Or.inl ⟨by rfl, ?_⟩) (by assumption) ?_
   rotate_left
   ·intro Wx hSw
    try dsimp only at hSw
    go_simp
    try with_reducible rfl
   try simp only [Act.put, List.setIfInBounds_toArray, List.set_cons_zero, List.set_cons_succ]
   refine wpAnyH_take (i := 8) (oi := { dst := some 31, op := _, type := _, pos := _, after := _, guard := _ }) (v := ?_) rfl (by kernel_rfl) (by kernel_rfl) (by kernel_rfl) (fun _ _ _ h => h) (Or.inl ⟨by rfl, ?_⟩) (by assumption) ?_
   rotate_left
   ·intro Wx hSw
    try dsimp only at hSw
    go_simp
    try with_reducible rfl
   try simp only [Act.put, List.setIfInBounds_toArray, List.set_cons_zero, List.set_cons_succ]
   refine wpAnyH_take (i := 9) (oi := { dst := some 32, op := _, type := _, pos := _, after := _, guard := _ }) (v := ?_) rfl (by kernel_rfl) (by kernel_rfl) (by kernel_rfl) (fun _ _ _ h => h) (Or.inl ⟨by rfl, ?_⟩) (by assumption) ?_
   rotate_left
   ·intro Wx hSw
    try dsimp only at hSw
    go_simp
    try with_reducible rfl
   try simp only [Act.put, List.setIfInBounds_toArray, List.set_cons_zero, List.set_cons_succ]
   refine wpAnyH_take (i := 10) (oi := { dst := some 8, op := _, type := _, pos := _, after := _, guard := _ }) (v := ?_) rfl (by kernel_rfl) (by kernel_rfl) (by kernel_rfl) (fun _ _ _ h => h) (Or.inl ⟨by rfl, ?_⟩) (by assumption) ?_
   rotate_left
   ·intro Wx hSw
    try dsimp only at hSw
    go_simp
    try with_reducible rfl
   try simp only [Act.put, List.setIfInBounds_toArray, List.set_cons_zero, List.set_cons_succ]
   refine wpAnyH_done (by kernel_rfl) ?_ _
   clear HS
   generalize wb.drew = w2 at *
   generalize linT C.l path k = L at *
   by_cases h0 : ln = 0
   ·subst h0
    have HM : Hid (linT C.l path (k + 1) = L) := Lib.hid (by have := HSN.out; rw [show lineOf C.l (Int.toNat (j : Int)) = 0 from HLN.out] at this; simpa using this)
    go_wp2_with fail
    rw [← HEA.out]
    go_roundg (path.length - (k + 1))
    case measure => have := HLT.out; omega
    case rel => exact ⟨k + 1, HLT.out, rfl, by go_num, by rw [HM.out]; exact ⟨A, c, rfl, HOWN.out⟩, HF.out⟩
   ·have e1 : (ln == 0) = false := by simpa using h0
    have e2 : decide (ln = 0) = false := decide_eq_false h0
    have HM : Hid (linT C.l path (k + 1) = L ++ [ln]) := Lib.hid (by have := HSN.out; rw [show lineOf C.l (Int.toNat (j : Int)) = ln from HLN.out, if_neg h0] at this; exact this)
    clear h0
    have hown2 := HOWN.out
    have hfs := HF.out.size
    obtain ⟨i0, hi0, hz0, hz1, hz2⟩ := info_parts Tryz.infoI
    have fb := (Fr.refl (fun _ => False) w2).alloc (.cells #[.int .i64 ln] 3)
    have HFB := Lib.hid fb
    have hle : L.length ≤ k := HLE.out
    have hb1 := HB1.out
    have hbs := HLT.out
    have hfbs := fb.size
    clear fb
    go_wp2_with (at_builtin; refine wpList_append_wide _ rfl (.tmp 35) (.tmp 37) 25 rfl w.heap.size 3 i0 _ 1 8 Tryz.underlying25 hi0 hz0 hz1 hz2 rfl (by decide) (.slice A L.length c) L.length (L.map (Value.int .i64)) rfl (hown2.alloc _) (some ⟨w2.heap.size, 0, none⟩) 1 1 [.int .i64 ln] rfl rfl (lit_rd w2 _ _) (by simp [Value.oneCell']) (by unfold maxLen; omega) (by omega) (by omega) ?_)
    intro v5 w5 hown5 hg5 _
    have hlo := World.ownsRow.lt (hown2.alloc (.cells #[.int .i64 ln] 3))
    have f5 : Fr (fun _ => False) w w5 := (fr_nil HF.out HFB.out).grown hg5 fun q hq => .inr (hlo q hq).1
    have HF5 := Lib.hid f5
    obtain ⟨A5, c5', rfl, _, _, _, _⟩ := wide_form hown5
    have HN : Hid (Mv.Nms w.heap.size (linT C.l path (k + 1)) w5 (.slice A5 (L.length + 1) c5')) := Lib.hid (by rw [HM.out]; exact ⟨A5, c5', by simp, by simp only [List.length_append, List.length_cons, List.length_nil, List.map_append, List.map_cons, List.map_nil]; exact hown5⟩)
    clear hown2 hown5 hg5 hlo f5 hi0 hz0 hz1 hz2 hfs hfbs hle hb1 hbs
    go_wp2_with fail
    rw [← HEA.out]
    go_roundg (path.length - (k + 1))
    case measure => have := HLT.out; omega
    case rel => exact ⟨k + 1, HLT.out, rfl, by go_num, HN.out, HF5.out⟩
  ·have hk' : k = path.length := by omega
   have HN : Hid (Mv.Nms w.heap.size T wr (.slice A (linT C.l path k).length c)) := Lib.hid (by rw [← HN0.out, ← hk']; exact ⟨A, c, rfl, hown⟩)
   generalize linT C.l path k = L at *
   clear hown hk'
   go_wp2_with fail
   go_ret
   exact ⟨_, rfl, HN.out, f⟩
end Go.Proofs.YtginfnbdnkgjbaaGreat.Lk
namespace Go.Proofs.YtginfnbdnkgjbaaGreat.Lk
open Go.RowKit
def outT (C : Cm) (i : Nat) : List Int := linT C.l (C.rs.getD i default).path (C.rs.getD i default).path.length
def askedB (lns : List Ln) (n : Int) : Bool := decide ((lns.getD n.toNat default).ask = 4294967295)
def reqC (C : Cm) (k : Kp) (now r : Int) : Kp × Int :=
 if isSecB C.rs.length r = false then (k, 20) else if (rsAt k r).st ≠ 0 then (k, 28)
 else if (locksR C r).any (aheadB C.sg (C.rs.map Ro.rt) k.rts) = true then (k, 23)
 else if (locksR C r).all (canB (C.rs.map Ro.rt) k.own (C.rs.getD r.toNat default).rt) = false then (k, 22)
 else if (outT C r.toNat).any (askedB k.lns) = true then (k, 5)
 else (⟨takeL (r + 1) (locksR C r) k.own, k.rts.set r.toNat ⟨1, 0, 0, 0⟩, ptsL now (Mv.needs C r) k.pts, crsL now (Mv.crs C r) k.crs, askLs (outT C r.toNat) k.lns, k.rss, true⟩, 0)
structure Fit (C : Cm) (K : Km) : Prop where
 rts : K.rts.length = C.rs.length
 asks : ∀ x ∈ K.lns, 0 ≤ x.ask ∧ x.ask ≤ 4294967295
 own : ∀ o ∈ K.own, -2 ≤ o ∧ o ≤ 9223372036854775807
 slim : Mv.Slim C
 short : ∀ r ∈ C.rs, (r.over.length + (r.path.length + r.flank.length)) * 8 ≤ 140737488355328
 locks : ∀ i, i < C.rs.length → ∀ s ∈ locksR C (i : Nat), 0 ≤ s ∧ s < K.own.length
 needs : ∀ i, i < C.rs.length → ∀ n ∈ Mv.needs C (i : Nat), 0 ≤ n.sec ∧ n.sec < K.pts.length
 crs : ∀ i, i < C.rs.length → ∀ n ∈ Mv.crs C (i : Nat), 0 ≤ n ∧ n < K.crs.length
 outs : ∀ i, i < C.rs.length → ∀ n ∈ outT C i, 0 ≤ n ∧ n < K.lns.length
 path : ∀ r ∈ C.rs, ∀ x ∈ r.path, 0 ≤ x.sec ∧ x.sec < C.l.length
 few : ∀ i, i < C.rs.length → (locksR C (i : Nat)).length ≤ 9223372036854775807 ∧ (Mv.needs C (i : Nat)).length ≤ 9223372036854775807 ∧ (Mv.crs C (i : Nat)).length ≤ 9223372036854775807 ∧ (outT C i).length ≤ 140737488355328 ∧ (i : Int) ≤ 140737488355328
set_option maxRecDepth 100000 in
set_option maxHeartbeats 8000000 in
theorem request_any {w0 w : World} {sb : Nat} {K : Km} {C : Cm} (h : St w0 w sb K C) (hC : C.Ok w0) (F : Fit C K) (now r : Int) :
  Calls Tryz.prog 86 #[.pointer (some ⟨sb, 0, none⟩), .int .i64 now, .int .i64 r] w (Left w0 sb C (reqC C K.kp now r)) := by
 have c1 : w.cell? ⟨sb, 1, none⟩ = some (.slice K.A2 K.rts.length K.c2) := h.is.cell 1
 have KH := fun A W => lhasr_any (A := A) (c := K.c2) (n := K.rts.length) r W
 have HH := Lib.hid h
 have HC := Lib.hid hC
 have HF := Lib.hid F
 have HR := Lib.hid F.rts
 clear h hC
 unfold reqC
 rw [← F.rts]
 clear F
 cases hi : isSecB K.rts.length r
 ·rw [hi] at KH
  rw [if_pos rfl]
  have KH := KH K.A2
  clear hi
  go_enter Tryz.func86, Tryz.ntmps86
  go_wp2_with fail
  refine (KH _).mono ?_
  rintro e w1 ⟨rfl, rfl⟩
  clear KH
  go_wp2_with fail
  go_ret
  exact ⟨rfl, K, rfl, HH.out⟩
 ·rw [hi] at KH
  rw [if_neg (by decide)]
  obtain ⟨i, rfl, hj⟩ := isSecB_true hi
  have hjc : i < C.rs.length := by have := HR.out; omega
  obtain ⟨g, hA, d0, -, -, -, -, -, -, -⟩ := HH.out.at2 hj
  rw [rsAt_lt hj, Int.toNat_natCast]
  rw [hA] at c1
  have KH := KH (some ⟨g, 0, none⟩)
  have HA := Lib.hid hA
  have i1 : (0 : Int) ≤ (i : Int) := by omega
  have i2 : (i : Int) < (K.rts.length : Int) := by omega
  have HJ := Lib.hid hj
  have HJC := Lib.hid hjc
  have HST := Lib.hid (rfl : K.rts[i].st = K.rts[i].st)
  generalize hst : K.rts[i].st = st at *
  clear hi hA hst HST hj hjc
  by_cases h0 : st = 0
  ·subst h0
   rw [if_neg (fun h => h rfl)]
   generalize hb1 : (locksR C (i : Int)).any (aheadB C.sg (C.rs.map Ro.rt) K.kp.rts) = b1
   generalize hb2 : (locksR C (i : Int)).all (canB (C.rs.map Ro.rt) K.kp.own (C.rs.getD i default).rt) = b2
   generalize hb3 : (outT C i).any (askedB K.kp.lns) = b3
   have HB1 := Lib.hid hb1
   have HB2 := Lib.hid hb2
   have HB3 := Lib.hid hb3
   obtain ⟨y, hy⟩ : ∃ y, y = (if b1 = true then (K.kp, 23) else if b2 = false then (K.kp, 22) else if b3 = true then (K.kp, 5) else (⟨takeL ((i : Int) + 1) (locksR C (i : Int)) K.kp.own, K.kp.rts.set i ⟨1, 0, 0, 0⟩, ptsL now (Mv.needs C (i : Int)) K.kp.pts, crsL now (Mv.crs C (i : Int)) K.kp.crs, askLs (outT C i) K.kp.lns, K.kp.rss, true⟩, 0) : Kp × Int) := ⟨_, rfl⟩
   rw [← hy]
   have HY := Lib.hid hy
   clear hy hb1 hb2 hb3
   have HKL := Lib.hid (locks_any C (i : Int) w (HC.out.fr HH.out.f) HF.out.short)
   obtain ⟨p0, p1, p2, p3, p4, p5, p6, p7, p8⟩ := HH.out.nine
   unfold Cm.val Cm.arr at HKL
   go_enter Tryz.func86, Tryz.ntmps86
   go_wp2_with fail
   refine (KH _).mono ?_
   rintro e w1 ⟨rfl, rfl⟩
   clear KH
   go_wp2_with fail
   refine HKL.out.mono ?_
   rintro e w1 ⟨A1, a1, rfl, o1, f1⟩
   clear HKL p0 p1 p2 p3 p4 p5 p6 p7 p8 c1 d0
   have HO1 := Lib.hid o1
   have HF1 := Lib.hid f1
   clear o1 f1
   have HS1 := Lib.hid (HH.out.fr HF1.out)
   have HKO := Lib.hid (outlines_any HS1.out (HC.out.fr HS1.out.f) HJC.out (HF.out.path _ (List.getElem_mem HJC.out)))
   go_wp2_with fail
   refine HKO.out.mono ?_
   rintro e w2 ⟨v2, rfl, ⟨A2, a2, rfl, o2⟩, f2⟩
   have HOE : Hid (outT C i = linT C.l C.rs[i].path C.rs[i].path.length) := Lib.hid (by unfold outT; rw [rs_at HJC.out]; try rfl)
   generalize linT C.l C.rs[i].path C.rs[i].path.length = LN at *
   have HO2 := Lib.hid o2
   have HF2 := Lib.hid f2
   clear o2 f2
   have HS2 := Lib.hid (HS1.out.fr HF2.out)
   have HO1 := Lib.hid (wide_fr HO1.out HF2.out fun _ _ => id)
   have HL1 := Lib.hid ((HF.out.few i HJC.out).1)
   have HL2 := Lib.hid (HOE.out ▸ (HF.out.few i HJC.out).2.2.2.1)
   have HV1 := Lib.hid (HF.out.locks i HJC.out)
   have hca := contains_ahead_any (A := A1) (c := a1) (sb := sb) (l := locksR C (i : Int)) (aheadB C.sg (C.rs.map Ro.rt) K.rts) w2 (wide_rd HO1.out) HL1.out (fun s _ W fW => ahead_any (HS2.out.fr fW) (HC.out.fr (HS2.out.fr fW).f) HR.out s)
   rw [show (locksR C (i : Int)).any (aheadB C.sg (C.rs.map Ro.rt) K.rts) = b1 from HB1.out] at hca
   have HCA := Lib.hid hca
   clear hca
   cases b1
   rotate_left
   ·have hy := HY.out
    rw [if_pos rfl] at hy
    subst hy
    go_wp2_with fail
    refine HCA.out.mono ?_
    rintro e w3 ⟨rfl, f3⟩
    have HF3 := Lib.hid f3
    clear f3 HCA
    go_wp2_with fail
    go_ret
    exact ⟨rfl, K, rfl, HS2.out.fr HF3.out⟩
   ·go_wp2_with fail
    refine HCA.out.mono ?_
    rintro e w3 ⟨rfl, f3⟩
    have HF3 := Lib.hid f3
    clear f3 HCA
    have HS3 := Lib.hid (HS2.out.fr HF3.out)
    have HO1 := Lib.hid (wide_fr HO1.out HF3.out fun _ _ => id)
    have HO2 := Lib.hid (wide_fr HO2.out HF3.out fun _ _ => id)
    have hct := cantake_any (A := A1) (c := a1) HS3.out (HC.out.fr HS3.out.f) HJC.out HF.out.own (locksR C (i : Int)) HL1.out (wide_rd HO1.out) HV1.out
    rw [show (locksR C (i : Int)).all (canB (C.rs.map Ro.rt) K.own C.rs[i].rt) = b2 by rw [← HB2.out, rs_at HJC.out]; rfl] at hct
    have HCT := Lib.hid hct
    clear hct
    cases b2
    ·have hy := HY.out
     rw [if_neg (by decide), if_pos rfl] at hy
     subst hy
     go_wp2_with fail
     refine HCT.out.mono ?_
     rintro e w4 ⟨rfl, f4⟩
     have HF4 := Lib.hid f4
     clear f4 HCT
     go_wp2_with fail
     go_ret
     exact ⟨rfl, K, rfl, HS3.out.fr HF4.out⟩
    ·go_wp2_with fail
     refine HCT.out.mono ?_
     rintro e w4 ⟨rfl, f4⟩
     have HF4 := Lib.hid f4
     clear f4 HCT
     have HS4 := Lib.hid (HS3.out.fr HF4.out)
     have HO1 := Lib.hid (wide_fr HO1.out HF4.out fun _ _ => id)
     have HO2 := Lib.hid (wide_fr HO2.out HF4.out fun _ _ => id)
     have HV2 : Hid (∀ n ∈ LN, 0 ≤ n ∧ n < K.lns.length) := Lib.hid (HOE.out ▸ HF.out.outs i HJC.out)
     have hco := contains_askedOut_any (A := A2) (c := a2) (sb := sb) (l := LN) (askedB K.lns) w4 (wide_rd HO2.out) (by have := HL2.out; omega) (fun s hs W fW => by
      have hv := HV2.out s hs
      obtain ⟨j, rfl⟩ := Int.eq_ofNat_of_zero_le hv.1
      have hj : j < K.lns.length := by omega
      unfold askedB
      rw [Int.toNat_natCast, show K.lns.getD j default = K.lns[j] by rw [List.getD_eq_getElem?_getD, List.getElem?_eq_getElem hj]; rfl]
      exact askedout_any (HS4.out.fr fW) hj)
     rw [show LN.any (askedB K.lns) = b3 by rw [← HB3.out, HOE.out]; rfl] at hco
     have HCO := Lib.hid hco
     clear hco
     cases b3
     rotate_left
     ·have hy := HY.out
      rw [if_neg (by decide), if_neg (by decide), if_pos rfl] at hy
      subst hy
      go_wp2_with fail
      refine HCO.out.mono ?_
      rintro e w5 ⟨rfl, f5⟩
      have HF5 := Lib.hid f5
      clear f5 HCO
      go_wp2_with fail
      go_ret
      exact ⟨rfl, K, rfl, HS4.out.fr HF5.out⟩
     ·go_wp2_with fail
      refine HCO.out.mono ?_
      rintro e w5 ⟨rfl, f5⟩
      have HF5 := Lib.hid f5
      clear f5 HCO
      have HS5 := Lib.hid (HS4.out.fr HF5.out)
      have HO1 := Lib.hid (wide_fr HO1.out HF5.out fun _ _ => id)
      have HO2 := Lib.hid (wide_fr HO2.out HF5.out fun _ _ => id)
      have HTK := Lib.hid (take_any (A := A1) (c := a1) HS5.out (i : Int) (locksR C (i : Int)) (by omega) (HF.out.few i HJC.out).2.2.2.2 HL1.out (wide_rd HO1.out) (fun q hq e => by
       have a := (World.ownsRow.lt HO1.out q (by rw [own_blk]; exact hq)).1
       have b := (HH.out.own.lt q (.inl e)).2
       omega) HV1.out)
      go_wp2_with fail
      refine HTK.out.mono ?_
      rintro e w6 ⟨rfl, st6, f6⟩
      have HUP : Hid (∀ q, K.at q → q < w.heap.size) := Lib.hid fun q hq => (HH.out.own.lt q hq).2
      have HLO : Hid (∀ q, (Value.slice A2 LN.length a2).ownBlock = some q → w.heap.size ≤ q) := Lib.hid fun q hq => by
       have a := (World.ownsRow.lt HO2.out q hq).1
       have b := HF1.out.size
       omega
      have HO2 := Lib.hid (wide_fr HO2.out f6 fun q hq e => by have a := HUP.out q (.inl e); have b := HLO.out q hq; omega)
      have hy := HY.out
      rw [if_neg (by decide), if_neg (by decide), if_neg (by decide)] at hy
      have HY := Lib.hid hy
      clear hy HTK f6
      generalize hto : takeL ((i : Int) + 1) (locksR C (i : Int)) K.own = TO at *
      have HTO := Lib.hid hto
      clear hto
      have HN7 : Hid (St w0 ((((w6.setCell ⟨g, i * 4, none⟩ (.int .i64 1)).setCell ⟨g, i * 4 + 1, none⟩ (.int .i64 0)).setCell ⟨g, i * 4 + 2, none⟩ (.int .i64 0)).setCell ⟨g, i * 4 + 3, none⟩ (.int .i64 0)) sb { K with own := TO, rts := K.rts.set i ⟨1, 0, 0, 0⟩ } C) := Lib.hid (St.route (K := { K with own := TO }) st6 HJ.out HA.out ⟨1, 0, 0, 0⟩)
      have c1 : w6.cell? ⟨sb, 1, none⟩ = some (.slice (some ⟨g, 0, none⟩) K.rts.length K.c2) := by
       have := st6.is.cell 1
       simpa [stArr, HA.out] using this
      obtain ⟨g', hA', e0, e1, e2, e3, z0, z1, z2, z3⟩ := St.at2 (K := { K with own := TO }) st6 HJ.out
      have hgg : g' = g := by
       have hA' : K.A2 = some ⟨g', 0, none⟩ := hA'
       have := HA.out; rw [hA'] at this; injection this with e; injection e with e
      subst hgg
      clear hA' st6
      have f7 := ((((Fr.refl (fun q => q = g') w6).setCell (p := ⟨g', i * 4, none⟩) (.inl rfl) (.int .i64 1)).setCell (p := ⟨g', i * 4 + 1, none⟩) (.inl rfl) (.int .i64 0)).setCell (p := ⟨g', i * 4 + 2, none⟩) (.inl rfl) (.int .i64 0)).setCell (p := ⟨g', i * 4 + 3, none⟩) (.inl rfl) (.int .i64 0)
      have HF7 := Lib.hid f7
      clear f7
      go_upto_region 14 with fail
      have n7 := HN7.out
      have f7 := HF7.out
      clear HN7 HF7 c1 e0 e1 e2 e3 z0 z1 z2 z3
      generalize World.setCell _ _ _ = w7 at *
      have HO2 := Lib.hid (wide_fr HO2.out f7 fun q hq e => by have a := HUP.out q (.inr (.inl (by rw [HA.out, e]; rfl))); have b := HLO.out q hq; omega)
      obtain ⟨p0, p1, p2, p3, p4, p5, p6, p7, p8⟩ := n7.nine
      have HS7 := Lib.hid n7
      have HNE := Lib.hid (Mv.needs_any (i : Int) w7 (HC.out.fr n7.f) HF.out.slim)
      unfold Cm.val Cm.arr at HNE
      clear n7 f7
      go_wp2_with fail
      refine HNE.out.mono ?_
      rintro e w8 ⟨v8, rfl, ⟨A3, a3, rfl, o3⟩, f8⟩
      clear p0 p1 p2 p3 p4 p5 p6 p7 p8 HNE
      have HS8 := Lib.hid (HS7.out.fr f8)
      have HO2 := Lib.hid (wide_fr HO2.out f8 fun _ _ => id)
      have HB8 := Lib.hid (Nat.le_trans HH.out.f.size (Nat.le_refl _))
      have HPT := Lib.hid (point_any (A := A3) (c := a3) HS8.out now (Mv.needs C (i : Int)) (HF.out.few i HJC.out).2.1 (wide_rd o3) (fun q hq e => by
       have a := (World.ownsRow.lt o3 q (by rw [own_blk]; exact hq)).1
       have b := (HS7.out.own.lt q (.inr (.inr (.inl e)))).2
       omega) (HF.out.needs i HJC.out))
      clear o3 f8
      go_wp2_with fail
      refine HPT.out.mono ?_
      rintro e w9 ⟨rfl, st9, f9⟩
      have HO2 := Lib.hid (wide_fr HO2.out f9 fun q hq e => by have a := HUP.out q (.inr (.inr (.inl e))); have b := HLO.out q hq; omega)
      have HS9 := Lib.hid st9
      have HNC := Lib.hid (Mv.crossings_any (i : Int) w9 (HC.out.fr st9.f))
      unfold Cm.val Cm.arr at HNC
      obtain ⟨p0, p1, p2, p3, p4, p5, p6, p7, p8⟩ := st9.nine
      clear st9 f9 HPT
      go_wp2_with fail
      refine HNC.out.mono ?_
      rintro e wA ⟨vA, rfl, ⟨A4, a4, rfl, o4⟩, fA⟩
      clear p0 p1 p2 p3 p4 p5 p6 p7 p8 HNC
      have HSA := Lib.hid (HS9.out.fr fA)
      have HO2 := Lib.hid (wide_fr HO2.out fA fun _ _ => id)
      have HCL := Lib.hid (close_any (A := A4) (c := a4) HSA.out now (Mv.crs C (i : Int)) (HF.out.few i HJC.out).2.2.1 (wide_rd o4) (fun q hq e => by
       have a := (World.ownsRow.lt o4 q (by rw [own_blk]; exact hq)).1
       have b := (HS9.out.own.lt q (.inr (.inr (.inr (.inl e))))).2
       omega) (HF.out.crs i HJC.out))
      clear o4 fA
      go_wp2_with fail
      refine HCL.out.mono ?_
      rintro e wB ⟨rfl, stB, fB⟩
      have HO2 := Lib.hid (wide_fr HO2.out fB fun q hq e => by have a := HUP.out q (.inr (.inr (.inr (.inl e)))); have b := HLO.out q hq; omega)
      have HSB := Lib.hid stB
      clear stB fB HCL
      have HAF := Lib.hid (askfor_any (A := A2) (c := a2) HSB.out LN HL2.out (wide_rd HO2.out) (fun q hq e => by
       have a := HUP.out q (.inr (.inr (.inr (.inr (.inl e)))))
       have b := HLO.out q (by rw [own_blk]; exact hq)
       omega) HV2.out HF.out.asks)
      go_wp2_with fail
      refine HAF.out.mono ?_
      rintro e wC ⟨rfl, stC, fC⟩
      have zf := stC.is.frozen 6
      have c6 := stC.is.cell 6
      have HSC := Lib.hid stC
      clear stC fC HAF
      go_wp2_with fail
      go_ret
      have hy := HY.out
      clear HY
      subst hy
      refine ⟨rfl, _, ?_, HSC.out.dirt true⟩
      rw [HOE.out, ← HTO.out]
      rfl
  ·rw [if_pos h0]
   go_enter Tryz.func86, Tryz.ntmps86
   go_wp2_with fail
   refine (KH _).mono ?_
   rintro e w1 ⟨rfl, rfl⟩
   clear KH
   go_wp2_with fail
   go_ret
   exact ⟨rfl, K, rfl, HH.out⟩
end Go.Proofs.YtginfnbdnkgjbaaGreat.Lk
namespace Go.Proofs.YtginfnbdnkgjbaaGreat.Lk
open Go.RowKit
set_option maxRecDepth 100000 in
set_option maxHeartbeats 8000000 in
theorem answer_Request_any (C : Cm) (K : Km) (w : World) (hC : C.Ok w) (hK : K.Ok w) (u1 u2 : Value) (x : Kp × Int) {At : Option Addr} {ct : Nat} {ts : List Int} (ht : Rd w At (ts.map (Value.int .i64))) (hl : ts.length ≤ 9223372036854775807)
  (hx : ∀ w0 W sb K', Fr (fun _ => False) w w0 → St w0 W sb K' C → K'.kp = K.kp → fitsB C.cf K.kp = true → ts.all tmB = true → Calls Tryz.prog 85 #[.pointer (some ⟨sb, 0, none⟩), u1, u2] W (Left w0 sb C x)) :
  Calls Tryz.prog 84 #[C.val, K.val, .func (.func 85) #[] #[u1, u2], .slice At ts.length ct] w (AnsE w (gateM C.cf K.kp (ts.all tmB) (if x.2 = 0 then x else (K.kp, x.2)))) := by
 have KF := fun W (f : Fr (fun _ => False) w W) => fits_any C K W (hC.fr f) (hK.fr f)
 have KO := fun W (f : Fr (fun _ => False) w W) => copied_any K W (hK.fr f)
 have KW : ∀ W, Fr (fun _ => False) w W → Calls Tryz.prog 79 #[.int .i64 0, .int .i64 4294967295, .slice At ts.length ct] W fun e w' => e = .returned (.bool (ts.all tmB)) ∧ Fr (fun _ => False) W w' := fun W (f : Fr (fun _ => False) w W) => within_any (c := ct) 0 4294967295 ts W (ht.fr f fun _ _ => id) hl
 have HX := Lib.hid hx
 have HF0 := Lib.hid ((((Fr.refl (fun _ => False) w).alloc (.cells C.arr 30)).alloc (.cells K.arr 35)).alloc (.cells #[.slice none 0 0, .slice none 0 0, .slice none 0 0, .slice none 0 0, .slice none 0 0, .slice none 0 0, .bool false] 35))
 have HIC := Lib.hid (((Is.new w 30 C.arr).alloc (.cells K.arr 35)).alloc (.cells #[.slice none 0 0, .slice none 0 0, .slice none 0 0, .slice none 0 0, .slice none 0 0, .slice none 0 0, .bool false] 35))
 have HIK := Lib.hid ((Is.new (w.alloc (.cells C.arr 30)) 35 K.arr).alloc (.cells #[.slice none 0 0, .slice none 0 0, .slice none 0 0, .slice none 0 0, .slice none 0 0, .slice none 0 0, .bool false] 35))
 have HIR := Lib.hid (Is.new ((w.alloc (.cells C.arr 30)).alloc (.cells K.arr 35)) 35 #[.slice none 0 0, .slice none 0 0, .slice none 0 0, .slice none 0 0, .slice none 0 0, .slice none 0 0, .bool false])
 have hz : (((w.alloc (.cells C.arr 30)).alloc (.cells K.arr 35)).alloc (.cells #[.slice none 0 0, .slice none 0 0, .slice none 0 0, .slice none 0 0, .slice none 0 0, .slice none 0 0, .bool false] 35)).heap.size = w.heap.size + 3 := by simp
 rw [show ((w.alloc (.cells C.arr 30)).alloc (.cells K.arr 35)).heap.size = w.heap.size + 1 + 1 by simp] at HIR
 rw [show (w.alloc (.cells C.arr 30)).heap.size = w.heap.size + 1 by simp] at HIK
 have HZ := Lib.hid hz
 clear hx hC hK ht hz
 unfold gateM
 unfold Cm.val Km.val Cm.arr Km.arr at *
 generalize hy : (if x.2 = 0 then x else (K.kp, x.2)) = y
 have HY := Lib.hid hy
 clear hy
 generalize fitsB C.cf K.kp = b at *
 cases b
 ·rw [if_pos rfl]
  clear KW HX
  go_enter Tryz.func84, Tryz.ntmps84
  go_upto_region 1 with (fail)
  have F := HF0.out
  have isc := HIC.out
  have isk := HIK.out
  have isr := HIR.out
  have hz := HZ.out
  clear HF0 HIC HIK HIR HZ
  generalize (((w.alloc _).alloc _).alloc _) = w0 at *
  have HSZ := Lib.hid (Nat.le_of_eq hz.symm)
  clear hz
  obtain ⟨p0, p1, p2, p3, p4, p5, p6, p7, p8⟩ := conf_cells0 isc
  obtain ⟨k0, k1, k2, k3, k4, k5, k6⟩ := core_cells (K := K) isk
  go_wp2_with fail
  refine (KF _ F).mono ?_
  rintro _ w1 ⟨rfl, fv⟩
  have isc := isc.fr fv id
  have isk := isk.fr fv id
  have isr := isr.fr fv id
  have F := fr_nil F fv
  have HSZ := Lib.hid (Nat.le_trans HSZ.out fv.size)
  clear fv KF p0 p1 p2 p3 p4 p5 p6 p7 p8 k0 k1 k2 k3 k4 k5 k6
  obtain ⟨k0, k1, k2, k3, k4, k5, k6⟩ := core_cells (K := K) isk
  go_wp2_with fail
  refine (KO _ F).mono ?_
  rintro _ v9 ⟨K2, rfl, hk2, o2, fv⟩
  have isr := isr.fr fv id
  have HS9 := Lib.hid (Nat.le_trans HSZ.out (show _ ≤ v9.heap.size from fv.size))
  have HS8 := HSZ
  have HO2 := Lib.hid o2
  have HK2 := Lib.hid hk2
  have HF9 := Lib.hid (fr_nil F fv)
  obtain ⟨m0, m1, m2, m3, m4, m5, m6⟩ := seven isr
  have z0 := isr.frozen 0
  have z1 := isr.frozen 1
  have z2 := isr.frozen 2
  have z3 := isr.frozen 3
  have z4 := isr.frozen 4
  have z5 := isr.frozen 5
  have z6 := isr.frozen 6
  clear o2 hk2 fv k0 k1 k2 k3 k4 k5 k6 F isk KO
  unfold Km.val Km.arr
  go_wp2_with fail
  have isR := (((((((isr.set 0 (.slice K2.A1 K2.own.length K2.c1)).set 1 (.slice K2.A2 K2.rts.length K2.c2)).set 2 (.slice K2.A3 K2.pts.length K2.c3)).set 3 (.slice K2.A4 K2.crs.length K2.c4)).set 4 (.slice K2.A5 K2.lns.length K2.c5)).set 5 (.slice K2.A6 K2.rss.length K2.c6)).set 6 (.bool K2.dirty))
  have fR := ((((((((Fr.refl (fun q => q = w.heap.size + 1 + 1) v9).setCell (p := ⟨w.heap.size + 1 + 1, 0, none⟩) (.inl rfl) (.slice K2.A1 K2.own.length K2.c1)).setCell (p := ⟨w.heap.size + 1 + 1, 1, none⟩) (.inl rfl) (.slice K2.A2 K2.rts.length K2.c2)).setCell (p := ⟨w.heap.size + 1 + 1, 2, none⟩) (.inl rfl) (.slice K2.A3 K2.pts.length K2.c3)).setCell (p := ⟨w.heap.size + 1 + 1, 3, none⟩) (.inl rfl) (.slice K2.A4 K2.crs.length K2.c4)).setCell (p := ⟨w.heap.size + 1 + 1, 4, none⟩) (.inl rfl) (.slice K2.A5 K2.lns.length K2.c5)).setCell (p := ⟨w.heap.size + 1 + 1, 5, none⟩) (.inl rfl) (.slice K2.A6 K2.rss.length K2.c6)).setCell (p := ⟨w.heap.size + 1 + 1, 6, none⟩) (.inl rfl) (.bool K2.dirty))
  simp only [List.setIfInBounds_toArray, List.set_cons_zero, List.set_cons_succ] at isR
  generalize hW : World.setCell _ _ _ = W at *
  have c0 := isR.cell 0
  have c1 := isR.cell 1
  have c2 := isR.cell 2
  have c3 := isR.cell 3
  have c4 := isR.cell 4
  have c5 := isR.cell 5
  have c6 := isR.cell 6
  have HOW : K2.Own w.heap.size W := (HO2.out.fr fR fun k hk e => by have a := (HO2.out.lt k hk).1; have b := HS8.out; omega).base (by have b := HS8.out; omega)
  have FW : Fr (fun _ => False) w W := HF9.out.trans fR fun k hk e => by omega
  refine bodyPost_ret (v := .tuple #[K2.val, .int .i64 21]) ?_ rfl ⟨K2, rfl, HK2.out, HOW, FW⟩
  unfold Km.val Km.arr
  simp [results, Tryz.results84, go_sem, c0, c1, c2, c3, c4, c5, c6]
 ·rw [if_neg (by decide)]
  generalize ts.all tmB = d at *
  cases d
  ·rw [if_pos rfl]
   clear HX
   go_enter Tryz.func84, Tryz.ntmps84
   go_upto_region 1 with (fail)
   have F := HF0.out
   have isc := HIC.out
   have isk := HIK.out
   have isr := HIR.out
   have hz := HZ.out
   clear HF0 HIC HIK HIR HZ
   generalize (((w.alloc _).alloc _).alloc _) = w0 at *
   have HSZ := Lib.hid (Nat.le_of_eq hz.symm)
   clear hz
   obtain ⟨p0, p1, p2, p3, p4, p5, p6, p7, p8⟩ := conf_cells0 isc
   obtain ⟨k0, k1, k2, k3, k4, k5, k6⟩ := core_cells (K := K) isk
   go_wp2_with fail
   refine (KF _ F).mono ?_
   rintro _ w1 ⟨rfl, fv⟩
   have isc := isc.fr fv id
   have isk := isk.fr fv id
   have isr := isr.fr fv id
   have F := fr_nil F fv
   have HSZ := Lib.hid (Nat.le_trans HSZ.out fv.size)
   clear fv KF p0 p1 p2 p3 p4 p5 p6 p7 p8 k0 k1 k2 k3 k4 k5 k6
   go_wp2_with fail
   refine (KW _ F).mono ?_
   rintro _ w2 ⟨rfl, fv⟩
   have isk := isk.fr fv id
   have isr := isr.fr fv id
   have F := fr_nil F fv
   have HSZ := Lib.hid (Nat.le_trans HSZ.out fv.size)
   clear fv KW isc
   obtain ⟨k0, k1, k2, k3, k4, k5, k6⟩ := core_cells (K := K) isk
   go_wp2_with fail
   refine (KO _ F).mono ?_
   rintro _ v9 ⟨K2, rfl, hk2, o2, fv⟩
   have isr := isr.fr fv id
   have HS9 := Lib.hid (Nat.le_trans HSZ.out (show _ ≤ v9.heap.size from fv.size))
   have HS8 := HSZ
   have HO2 := Lib.hid o2
   have HK2 := Lib.hid hk2
   have HF9 := Lib.hid (fr_nil F fv)
   obtain ⟨m0, m1, m2, m3, m4, m5, m6⟩ := seven isr
   have z0 := isr.frozen 0
   have z1 := isr.frozen 1
   have z2 := isr.frozen 2
   have z3 := isr.frozen 3
   have z4 := isr.frozen 4
   have z5 := isr.frozen 5
   have z6 := isr.frozen 6
   clear o2 hk2 fv k0 k1 k2 k3 k4 k5 k6 F isk KO
   unfold Km.val Km.arr
   go_wp2_with fail
   have isR := (((((((isr.set 0 (.slice K2.A1 K2.own.length K2.c1)).set 1 (.slice K2.A2 K2.rts.length K2.c2)).set 2 (.slice K2.A3 K2.pts.length K2.c3)).set 3 (.slice K2.A4 K2.crs.length K2.c4)).set 4 (.slice K2.A5 K2.lns.length K2.c5)).set 5 (.slice K2.A6 K2.rss.length K2.c6)).set 6 (.bool K2.dirty))
   have fR := ((((((((Fr.refl (fun q => q = w.heap.size + 1 + 1) v9).setCell (p := ⟨w.heap.size + 1 + 1, 0, none⟩) (.inl rfl) (.slice K2.A1 K2.own.length K2.c1)).setCell (p := ⟨w.heap.size + 1 + 1, 1, none⟩) (.inl rfl) (.slice K2.A2 K2.rts.length K2.c2)).setCell (p := ⟨w.heap.size + 1 + 1, 2, none⟩) (.inl rfl) (.slice K2.A3 K2.pts.length K2.c3)).setCell (p := ⟨w.heap.size + 1 + 1, 3, none⟩) (.inl rfl) (.slice K2.A4 K2.crs.length K2.c4)).setCell (p := ⟨w.heap.size + 1 + 1, 4, none⟩) (.inl rfl) (.slice K2.A5 K2.lns.length K2.c5)).setCell (p := ⟨w.heap.size + 1 + 1, 5, none⟩) (.inl rfl) (.slice K2.A6 K2.rss.length K2.c6)).setCell (p := ⟨w.heap.size + 1 + 1, 6, none⟩) (.inl rfl) (.bool K2.dirty))
   simp only [List.setIfInBounds_toArray, List.set_cons_zero, List.set_cons_succ] at isR
   generalize hW : World.setCell _ _ _ = W at *
   have c0 := isR.cell 0
   have c1 := isR.cell 1
   have c2 := isR.cell 2
   have c3 := isR.cell 3
   have c4 := isR.cell 4
   have c5 := isR.cell 5
   have c6 := isR.cell 6
   have HOW : K2.Own w.heap.size W := (HO2.out.fr fR fun k hk e => by have a := (HO2.out.lt k hk).1; have b := HS8.out; omega).base (by have b := HS8.out; omega)
   have FW : Fr (fun _ => False) w W := HF9.out.trans fR fun k hk e => by omega
   refine bodyPost_ret (v := .tuple #[K2.val, .int .i64 32]) ?_ rfl ⟨K2, rfl, HK2.out, HOW, FW⟩
   unfold Km.val Km.arr
   simp [results, Tryz.results84, go_sem, c0, c1, c2, c3, c4, c5, c6]
  ·rw [if_neg (by decide)]
   go_enter Tryz.func84, Tryz.ntmps84
   go_upto_region 1 with (fail)
   have F := HF0.out
   have isc := HIC.out
   have isk := HIK.out
   have isr := HIR.out
   have hz := HZ.out
   clear HF0 HIC HIK HIR HZ
   generalize (((w.alloc _).alloc _).alloc _) = w0 at *
   have HSZ := Lib.hid (Nat.le_of_eq hz.symm)
   clear hz
   obtain ⟨p0, p1, p2, p3, p4, p5, p6, p7, p8⟩ := conf_cells0 isc
   obtain ⟨k0, k1, k2, k3, k4, k5, k6⟩ := core_cells (K := K) isk
   go_wp2_with fail
   refine (KF _ F).mono ?_
   rintro _ w1 ⟨rfl, fv⟩
   have isc := isc.fr fv id
   have isk := isk.fr fv id
   have isr := isr.fr fv id
   have F := fr_nil F fv
   have HSZ := Lib.hid (Nat.le_trans HSZ.out fv.size)
   clear fv KF p0 p1 p2 p3 p4 p5 p6 p7 p8 k0 k1 k2 k3 k4 k5 k6
   go_wp2_with fail
   refine (KW _ F).mono ?_
   rintro _ w2 ⟨rfl, fv⟩
   have isc := isc.fr fv id
   have isk := isk.fr fv id
   have isr := isr.fr fv id
   have F := fr_nil F fv
   have HSZ := Lib.hid (Nat.le_trans HSZ.out fv.size)
   clear fv KW
   go_upto_region 5 with (fail)
   have HIC := Lib.hid isc
   have HIK := Lib.hid isk
   have HIR := Lib.hid isr
   have HF := Lib.hid F
   clear isc isk isr F
   have HS : Hid (∀ W, Fr (fun _ => False) w2 W → (fun Wx => (Wx.cell? ⟨w.heap.size, 0, none⟩ = some (.slice C.A1 C.l.length C.c1) ∧ Wx.cell? ⟨w.heap.size, 1, none⟩ = some (.slice C.A2 C.js.length C.c2) ∧ Wx.cell? ⟨w.heap.size, 2, none⟩ = some (.slice C.A3 C.sg.length C.c3) ∧ Wx.cell? ⟨w.heap.size, 3, none⟩ = some (.slice C.A4 C.cr.length C.c4) ∧ Wx.cell? ⟨w.heap.size, 4, none⟩ = some (.slice C.A5 C.rs.length C.c5) ∧ Wx.cell? ⟨w.heap.size, 5, none⟩ = some (.int .i64 C.tm.age) ∧ Wx.cell? ⟨w.heap.size, 6, none⟩ = some (.int .i64 C.tm.brake) ∧ Wx.cell? ⟨w.heap.size, 7, none⟩ = some (.int .i64 C.tm.hold) ∧ Wx.cell? ⟨w.heap.size, 8, none⟩ = some (.int .i64 C.tm.budget)) ∧ (Wx.cell? ⟨w.heap.size + 1, 0, none⟩ = some (.slice K.A1 K.own.length K.c1) ∧ Wx.cell? ⟨w.heap.size + 1, 1, none⟩ = some (.slice K.A2 K.rts.length K.c2) ∧ Wx.cell? ⟨w.heap.size + 1, 2, none⟩ = some (.slice K.A3 K.pts.length K.c3) ∧ Wx.cell? ⟨w.heap.size + 1, 3, none⟩ = some (.slice K.A4 K.crs.length K.c4) ∧ Wx.cell? ⟨w.heap.size + 1, 4, none⟩ = some (.slice K.A5 K.lns.length K.c5) ∧ Wx.cell? ⟨w.heap.size + 1, 5, none⟩ = some (.slice K.A6 K.rss.length K.c6) ∧ Wx.cell? ⟨w.heap.size + 1, 6, none⟩ = some (.bool K.dirty))) W) := Lib.hid fun W fW => ⟨conf_cells0 (HIC.out.fr fW id), core_cells (K := K) (HIK.out.fr fW id)⟩
   refine wp_region_held_drew (S := (fun Wx => (Wx.cell? ⟨w.heap.size, 0, none⟩ = some (.slice C.A1 C.l.length C.c1) ∧ Wx.cell? ⟨w.heap.size, 1, none⟩ = some (.slice C.A2 C.js.length C.c2) ∧ Wx.cell? ⟨w.heap.size, 2, none⟩ = some (.slice C.A3 C.sg.length C.c3) ∧ Wx.cell? ⟨w.heap.size, 3, none⟩ = some (.slice C.A4 C.cr.length C.c4) ∧ Wx.cell? ⟨w.heap.size, 4, none⟩ = some (.slice C.A5 C.rs.length C.c5) ∧ Wx.cell? ⟨w.heap.size, 5, none⟩ = some (.int .i64 C.tm.age) ∧ Wx.cell? ⟨w.heap.size, 6, none⟩ = some (.int .i64 C.tm.brake) ∧ Wx.cell? ⟨w.heap.size, 7, none⟩ = some (.int .i64 C.tm.hold) ∧ Wx.cell? ⟨w.heap.size, 8, none⟩ = some (.int .i64 C.tm.budget)) ∧ (Wx.cell? ⟨w.heap.size + 1, 0, none⟩ = some (.slice K.A1 K.own.length K.c1) ∧ Wx.cell? ⟨w.heap.size + 1, 1, none⟩ = some (.slice K.A2 K.rts.length K.c2) ∧ Wx.cell? ⟨w.heap.size + 1, 2, none⟩ = some (.slice K.A3 K.pts.length K.c3) ∧ Wx.cell? ⟨w.heap.size + 1, 3, none⟩ = some (.slice K.A4 K.crs.length K.c4) ∧ Wx.cell? ⟨w.heap.size + 1, 4, none⟩ = some (.slice K.A5 K.lns.length K.c5) ∧ Wx.cell? ⟨w.heap.size + 1, 5, none⟩ = some (.slice K.A6 K.rss.length K.c6) ∧ Wx.cell? ⟨w.heap.size + 1, 6, none⟩ = some (.bool K.dirty)))) (by kernel_rfl) (HS.out _ (Fr.refl _ w2).drew) (fun hHeld => ?_)
   refine wpAnyH_take (i := 0) (oi := { dst := some 25, op := _, type := _, pos := _, after := _, guard := _ }) (v := ?_) rfl (by kernel_rfl) (by kernel_rfl) (by kernel_rfl) (fun _ _ _ h => h) (Or.inl ⟨by rfl, ?_⟩) (by assumption) ?_
   rotate_left
   ·intro Wx hSw
    try dsimp only at hSw
    go_simp
    try with_reducible rfl
   try simp only [Act.put, List.setIfInBounds_toArray, List.set_cons_zero, List.set_cons_succ]
   refine wpAnyH_take (i := 2) (oi := { dst := some 27, op := _, type := _, pos := _, after := _, guard := _ }) (v := ?_) rfl (by kernel_rfl) (by kernel_rfl) (by kernel_rfl) (fun _ _ _ h => h) (Or.inl ⟨by rfl, ?_⟩) (by assumption) ?_
   rotate_left
   ·intro Wx hSw
    try dsimp only at hSw
    go_simp
    try with_reducible rfl
   try simp only [Act.put, List.setIfInBounds_toArray, List.set_cons_zero, List.set_cons_succ]
   refine wpAnyH_ready (rs := [1]) (by kernel_rfl) (by simp) (AllReadyH.cons rfl (fun KK hKK => ?_) AllReadyH.nil)
   go_simp
   refine (KO _ HF.out.drew).mono ?_
   rintro _ v3 ⟨K2, rfl, hk2, o2, fv⟩
   unfold Km.val Km.arr
   go_simp
   have HV := Lib.hid fv
   have HO := Lib.hid o2
   have HK2 := Lib.hid hk2
   clear fv o2 hk2
   refine hKK.out _ _ (HS.out _ ((Fr.refl _ w2).drew.trans HV.out fun _ _ e => e)) (fun hHeld => ?_)
   clear hKK KK
   refine wpAnyH_take (i := 3) (oi := { dst := some 28, op := _, type := _, pos := _, after := _, guard := _ }) (v := ?_) rfl (by kernel_rfl) (by kernel_rfl) (by kernel_rfl) (fun _ _ _ h => h) (Or.inl ⟨by rfl, ?_⟩) (by assumption) ?_
   rotate_left
   ·intro Wx hSw
    try dsimp only at hSw
    go_simp
    try with_reducible rfl
   try simp only [Act.put, List.setIfInBounds_toArray, List.set_cons_zero, List.set_cons_succ]
   refine wpAnyH_ready (rs := [4]) (by kernel_rfl) (by simp) (AllReadyH.cons rfl (fun KK hKK => ?_) AllReadyH.nil)
   go_simp
   have HA := Lib.hid ((Fr.refl (fun _ => False) v3).alloc (.cells #[.slice K2.A1 K2.own.length K2.c1, .slice K2.A2 K2.rts.length K2.c2, .slice K2.A3 K2.pts.length K2.c3, .slice K2.A4 K2.crs.length K2.c4, .slice K2.A5 K2.lns.length K2.c5, .slice K2.A6 K2.rss.length K2.c6, .bool K2.dirty, .slice C.A1 C.l.length C.c1, .slice C.A2 C.js.length C.c2, .slice C.A3 C.sg.length C.c3, .slice C.A4 C.cr.length C.c4, .slice C.A5 C.rs.length C.c5, .int .i64 C.tm.age, .int .i64 C.tm.brake, .int .i64 C.tm.hold, .int .i64 C.tm.budget] 183))
   refine hKK.out _ _ (HS.out _ (((Fr.refl _ w2).drew.trans HV.out fun _ _ e => e).trans HA.out fun _ _ e => e)) (fun hHeld => ?_)
   clear hKK KK
   refine wpAnyH_take (i := 5) (oi := { dst := some 10, op := _, type := _, pos := _, after := _, guard := _ }) (v := ?_) rfl (by kernel_rfl) (by kernel_rfl) (by kernel_rfl) (fun _ _ _ h => h) (Or.inl ⟨by rfl, ?_⟩) (by assumption) ?_
   rotate_left
   ·intro Wx hSw
    try dsimp only at hSw
    go_simp
    try with_reducible rfl
   try simp only [Act.put, List.setIfInBounds_toArray, List.set_cons_zero, List.set_cons_succ]
   refine wpAnyH_done (by kernel_rfl) ?_ _
   have HST : Hid (St w2.drew (v3.alloc (.cells #[.slice K2.A1 K2.own.length K2.c1, .slice K2.A2 K2.rts.length K2.c2, .slice K2.A3 K2.pts.length K2.c3, .slice K2.A4 K2.crs.length K2.c4, .slice K2.A5 K2.lns.length K2.c5, .slice K2.A6 K2.rss.length K2.c6, .bool K2.dirty, .slice C.A1 C.l.length C.c1, .slice C.A2 C.js.length C.c2, .slice C.A3 C.sg.length C.c3, .slice C.A4 C.cr.length C.c4, .slice C.A5 C.rs.length C.c5, .int .i64 C.tm.age, .int .i64 C.tm.brake, .int .i64 C.tm.hold, .int .i64 C.tm.budget] 183)) v3.heap.size K2 C) := Lib.hid ⟨Is.new v3 183 #[.slice K2.A1 K2.own.length K2.c1, .slice K2.A2 K2.rts.length K2.c2, .slice K2.A3 K2.pts.length K2.c3, .slice K2.A4 K2.crs.length K2.c4, .slice K2.A5 K2.lns.length K2.c5, .slice K2.A6 K2.rss.length K2.c6, .bool K2.dirty, .slice C.A1 C.l.length C.c1, .slice C.A2 C.js.length C.c2, .slice C.A3 C.sg.length C.c3, .slice C.A4 C.cr.length C.c4, .slice C.A5 C.rs.length C.c5, .int .i64 C.tm.age, .int .i64 C.tm.brake, .int .i64 C.tm.hold, .int .i64 C.tm.budget], HO.out.fr HA.out fun _ _ => id, HV.out.trans HA.out fun _ _ e => e, HV.out.size⟩
   generalize v3.alloc _ = v4 at *
   generalize v3.heap.size = sb at *
   have HX1 := HX.out w2.drew v4 sb K2 HF.out.drew HST.out HK2.out (by trivial) (by trivial)
   clear HX HA HO HV HS
   obtain ⟨xk, xe⟩ := x
   have hy := HY.out
   clear HY HK2 HST
   dsimp only at hy HX1
   by_cases he : xe = 0
   ·subst he
    rw [if_pos rfl] at hy
    subst hy
    clear KO
    go_wp2_with fail
    refine HX1.mono ?_
    rintro _ v5 ⟨rfl, K3, hk3, st⟩
    clear HX1
    dsimp only at hk3
    have FS := st.f
    have isr := (HIR.out.fr (Fr.refl (fun _ => False) w2).drew id).fr FS id
    obtain ⟨m0, m1, m2, m3, m4, m5, m6⟩ := seven isr
    have z0 := isr.frozen 0
    have z1 := isr.frozen 1
    have z2 := isr.frozen 2
    have z3 := isr.frozen 3
    have z4 := isr.frozen 4
    have z5 := isr.frozen 5
    have z6 := isr.frozen 6
    have s0 : v5.cell? ⟨sb, 0, none⟩ = some (.slice K3.A1 K3.own.length K3.c1) := st.is.cell 0
    have s1 : v5.cell? ⟨sb, 1, none⟩ = some (.slice K3.A2 K3.rts.length K3.c2) := st.is.cell 1
    have s2 : v5.cell? ⟨sb, 2, none⟩ = some (.slice K3.A3 K3.pts.length K3.c3) := st.is.cell 2
    have s3 : v5.cell? ⟨sb, 3, none⟩ = some (.slice K3.A4 K3.crs.length K3.c4) := st.is.cell 3
    have s4 : v5.cell? ⟨sb, 4, none⟩ = some (.slice K3.A5 K3.lns.length K3.c5) := st.is.cell 4
    have s5 : v5.cell? ⟨sb, 5, none⟩ = some (.slice K3.A6 K3.rss.length K3.c6) := st.is.cell 5
    have s6 : v5.cell? ⟨sb, 6, none⟩ = some (.bool K3.dirty) := st.is.cell 6
    have HS8 : Hid (w.heap.size + 3 ≤ w2.drew.heap.size) := Lib.hid (by simpa using HSZ.out)
    have HO2 := Lib.hid st.own
    have HK2 := Lib.hid hk3
    have HF9 := Lib.hid (HF.out.drew.trans FS fun _ _ e => e)
    generalize w2.drew = wd at *
    clear hk3 st FS
    go_wp2_with fail
    have isR := (((((((isr.set 0 (.slice K3.A1 K3.own.length K3.c1)).set 1 (.slice K3.A2 K3.rts.length K3.c2)).set 2 (.slice K3.A3 K3.pts.length K3.c3)).set 3 (.slice K3.A4 K3.crs.length K3.c4)).set 4 (.slice K3.A5 K3.lns.length K3.c5)).set 5 (.slice K3.A6 K3.rss.length K3.c6)).set 6 (.bool K3.dirty))
    have fR := ((((((((Fr.refl (fun q => q = w.heap.size + 1 + 1) v5).setCell (p := ⟨w.heap.size + 1 + 1, 0, none⟩) (.inl rfl) (.slice K3.A1 K3.own.length K3.c1)).setCell (p := ⟨w.heap.size + 1 + 1, 1, none⟩) (.inl rfl) (.slice K3.A2 K3.rts.length K3.c2)).setCell (p := ⟨w.heap.size + 1 + 1, 2, none⟩) (.inl rfl) (.slice K3.A3 K3.pts.length K3.c3)).setCell (p := ⟨w.heap.size + 1 + 1, 3, none⟩) (.inl rfl) (.slice K3.A4 K3.crs.length K3.c4)).setCell (p := ⟨w.heap.size + 1 + 1, 4, none⟩) (.inl rfl) (.slice K3.A5 K3.lns.length K3.c5)).setCell (p := ⟨w.heap.size + 1 + 1, 5, none⟩) (.inl rfl) (.slice K3.A6 K3.rss.length K3.c6)).setCell (p := ⟨w.heap.size + 1 + 1, 6, none⟩) (.inl rfl) (.bool K3.dirty))
    simp only [List.setIfInBounds_toArray, List.set_cons_zero, List.set_cons_succ] at isR
    generalize hW : World.setCell _ _ _ = W at *
    have c0 := isR.cell 0
    have c1 := isR.cell 1
    have c2 := isR.cell 2
    have c3 := isR.cell 3
    have c4 := isR.cell 4
    have c5 := isR.cell 5
    have c6 := isR.cell 6
    have HOW : K3.Own w.heap.size W := (HO2.out.fr fR fun k hk e => by have a := (HO2.out.lt k hk).1; have b := HS8.out; omega).base (by have b := HS8.out; omega)
    have FW : Fr (fun _ => False) w W := HF9.out.trans fR fun k hk e => by omega
    refine bodyPost_ret (v := .tuple #[K3.val, .int .i64 0]) ?_ rfl ⟨K3, rfl, HK2.out, HOW, FW⟩
    unfold Km.val Km.arr
    simp [results, Tryz.results84, go_sem, c0, c1, c2, c3, c4, c5, c6]
   ·rw [if_neg he] at hy
    subst hy
    have e1 : (xe == 0) = false := by simpa using he
    have e2 : decide (xe = 0) = false := by simpa using he
    go_wp2_with fail
    refine HX1.mono ?_
    rintro _ v5 ⟨rfl, K3, hk3, st⟩
    clear HX1
    have FS := st.f
    have isr := (HIR.out.fr (Fr.refl (fun _ => False) w2).drew id).fr FS id
    have isk := (HIK.out.fr (Fr.refl (fun _ => False) w2).drew id).fr FS id
    have F := HF.out.drew.trans FS fun _ _ e => e
    have HSZ : Hid (w.heap.size + 3 ≤ v5.heap.size) := Lib.hid (Nat.le_trans HSZ.out (by simpa using FS.size))
    clear FS st hk3
    dsimp only
    obtain ⟨k0, k1, k2, k3, k4, k5, k6⟩ := core_cells (K := K) isk
    go_wp2_with fail
    refine (KO _ F).mono ?_
    rintro _ v9 ⟨K2, rfl, hk2, o2, fv⟩
    have isr := isr.fr fv id
    have HS9 := Lib.hid (Nat.le_trans HSZ.out (show _ ≤ v9.heap.size from fv.size))
    have HS8 := HSZ
    have HO2 := Lib.hid o2
    have HK2 := Lib.hid hk2
    have HF9 := Lib.hid (fr_nil F fv)
    obtain ⟨m0, m1, m2, m3, m4, m5, m6⟩ := seven isr
    have z0 := isr.frozen 0
    have z1 := isr.frozen 1
    have z2 := isr.frozen 2
    have z3 := isr.frozen 3
    have z4 := isr.frozen 4
    have z5 := isr.frozen 5
    have z6 := isr.frozen 6
    clear o2 hk2 fv k0 k1 k2 k3 k4 k5 k6 F isk KO
    unfold Km.val Km.arr
    go_wp2_with fail
    have isR := (((((((isr.set 0 (.slice K2.A1 K2.own.length K2.c1)).set 1 (.slice K2.A2 K2.rts.length K2.c2)).set 2 (.slice K2.A3 K2.pts.length K2.c3)).set 3 (.slice K2.A4 K2.crs.length K2.c4)).set 4 (.slice K2.A5 K2.lns.length K2.c5)).set 5 (.slice K2.A6 K2.rss.length K2.c6)).set 6 (.bool K2.dirty))
    have fR := ((((((((Fr.refl (fun q => q = w.heap.size + 1 + 1) v9).setCell (p := ⟨w.heap.size + 1 + 1, 0, none⟩) (.inl rfl) (.slice K2.A1 K2.own.length K2.c1)).setCell (p := ⟨w.heap.size + 1 + 1, 1, none⟩) (.inl rfl) (.slice K2.A2 K2.rts.length K2.c2)).setCell (p := ⟨w.heap.size + 1 + 1, 2, none⟩) (.inl rfl) (.slice K2.A3 K2.pts.length K2.c3)).setCell (p := ⟨w.heap.size + 1 + 1, 3, none⟩) (.inl rfl) (.slice K2.A4 K2.crs.length K2.c4)).setCell (p := ⟨w.heap.size + 1 + 1, 4, none⟩) (.inl rfl) (.slice K2.A5 K2.lns.length K2.c5)).setCell (p := ⟨w.heap.size + 1 + 1, 5, none⟩) (.inl rfl) (.slice K2.A6 K2.rss.length K2.c6)).setCell (p := ⟨w.heap.size + 1 + 1, 6, none⟩) (.inl rfl) (.bool K2.dirty))
    simp only [List.setIfInBounds_toArray, List.set_cons_zero, List.set_cons_succ] at isR
    generalize hW : World.setCell _ _ _ = W at *
    have c0 := isR.cell 0
    have c1 := isR.cell 1
    have c2 := isR.cell 2
    have c3 := isR.cell 3
    have c4 := isR.cell 4
    have c5 := isR.cell 5
    have c6 := isR.cell 6
    have HOW : K2.Own w.heap.size W := (HO2.out.fr fR fun k hk e => by have a := (HO2.out.lt k hk).1; have b := HS8.out; omega).base (by have b := HS8.out; omega)
    have FW : Fr (fun _ => False) w W := HF9.out.trans fR fun k hk e => by omega
    refine bodyPost_ret (v := .tuple #[K2.val, .int .i64 xe]) ?_ rfl ⟨K2, rfl, HK2.out, HOW, FW⟩
    unfold Km.val Km.arr
    simp [results, Tryz.results84, go_sem, c0, c1, c2, c3, c4, c5, c6]
end Go.Proofs.YtginfnbdnkgjbaaGreat.Lk
namespace Go.Proofs.YtginfnbdnkgjbaaGreat.Lk
open Go.RowKit
theorem Fit.kp {C : Cm} {K K' : Km} (h : Fit C K) (e : K'.kp = K.kp) : Fit C K' := by
 have e1 : K'.own = K.own := congrArg Kp.own e
 have e2 : K'.rts = K.rts := congrArg Kp.rts e
 have e3 : K'.pts = K.pts := congrArg Kp.pts e
 have e4 : K'.crs = K.crs := congrArg Kp.crs e
 have e5 : K'.lns = K.lns := congrArg Kp.lns e
 exact ⟨by rw [e2]; exact h.rts, by rw [e5]; exact h.asks, by rw [e1]; exact h.own, h.slim, h.short, by rw [e1]; exact h.locks, by rw [e3]; exact h.needs, by rw [e4]; exact h.crs, by rw [e5]; exact h.outs, h.path, h.few⟩
set_option maxRecDepth 100000 in
set_option maxHeartbeats 8000000 in
theorem call_Request_any (C : Cm) (K : Km) (w : World) (hC : C.Ok w) (hK : K.Ok w) (now r : Int) (hfit : fitsB C.cf K.kp = true → Fit C K) :
  Calls Tryz.prog 33 #[C.val, K.val, .int .i64 now, .int .i64 r] w (AnsE w (gateM C.cf K.kp (tmB now) (reqC C K.kp now r))) := by
 have HC := Lib.hid hC
 have HK := Lib.hid hK
 have HF0 := Lib.hid ((((((Fr.refl (fun _ => False) w).alloc (.cells C.arr 30)).alloc (.cells K.arr 35)).alloc (.cells #[.int .i64 now] 3)).alloc (.cells #[.int .i64 r] 3)).alloc (.cells #[.slice none 0 0, .slice none 0 0, .slice none 0 0, .slice none 0 0, .slice none 0 0, .slice none 0 0, .bool false] 35))
 have HIC := Lib.hid (((((Is.new w 30 C.arr).alloc (.cells K.arr 35)).alloc (.cells #[.int .i64 now] 3)).alloc (.cells #[.int .i64 r] 3)).alloc (.cells #[.slice none 0 0, .slice none 0 0, .slice none 0 0, .slice none 0 0, .slice none 0 0, .slice none 0 0, .bool false] 35))
 have HIK := Lib.hid ((((Is.new (w.alloc (.cells C.arr 30)) 35 K.arr).alloc (.cells #[.int .i64 now] 3)).alloc (.cells #[.int .i64 r] 3)).alloc (.cells #[.slice none 0 0, .slice none 0 0, .slice none 0 0, .slice none 0 0, .slice none 0 0, .slice none 0 0, .bool false] 35))
 rw [show (w.alloc (.cells C.arr 30)).heap.size = w.heap.size + 1 by simp] at HIK
 have HI0 := Lib.hid (((Is.new ((w.alloc (.cells C.arr 30)).alloc (.cells K.arr 35)) 3 #[.int .i64 now]).alloc (.cells #[.int .i64 r] 3)).alloc (.cells #[.slice none 0 0, .slice none 0 0, .slice none 0 0, .slice none 0 0, .slice none 0 0, .slice none 0 0, .bool false] 35))
 rw [show ((w.alloc (.cells C.arr 30)).alloc (.cells K.arr 35)).heap.size = w.heap.size + 1 + 1 by simp] at HI0
 have HI1 := Lib.hid ((Is.new (((w.alloc (.cells C.arr 30)).alloc (.cells K.arr 35)).alloc (.cells #[.int .i64 now] 3)) 3 #[.int .i64 r]).alloc (.cells #[.slice none 0 0, .slice none 0 0, .slice none 0 0, .slice none 0 0, .slice none 0 0, .slice none 0 0, .bool false] 35))
 rw [show (((w.alloc (.cells C.arr 30)).alloc (.cells K.arr 35)).alloc (.cells #[.int .i64 now] 3)).heap.size = w.heap.size + 1 + 1 + 1 by simp] at HI1
 have HIR := Lib.hid (Is.new ((((w.alloc (.cells C.arr 30)).alloc (.cells K.arr 35)).alloc (.cells #[.int .i64 now] 3)).alloc (.cells #[.int .i64 r] 3)) 35 #[.slice none 0 0, .slice none 0 0, .slice none 0 0, .slice none 0 0, .slice none 0 0, .slice none 0 0, .bool false])
 rw [show ((((w.alloc (.cells C.arr 30)).alloc (.cells K.arr 35)).alloc (.cells #[.int .i64 now] 3)).alloc (.cells #[.int .i64 r] 3)).heap.size = w.heap.size + 1 + 1 + 1 + 1 by simp] at HIR
 have hz : (((((w.alloc (.cells C.arr 30)).alloc (.cells K.arr 35)).alloc (.cells #[.int .i64 now] 3)).alloc (.cells #[.int .i64 r] 3)).alloc (.cells #[.slice none 0 0, .slice none 0 0, .slice none 0 0, .slice none 0 0, .slice none 0 0, .slice none 0 0, .bool false] 35)).heap.size = w.heap.size + 5 := by simp
 have HZ := Lib.hid hz
 have HFIT := Lib.hid hfit
 clear hC hK hz hfit
 have hCv : C.val = .agg C.arr := rfl
 rw [show gateM C.cf K.kp (tmB now) (reqC C K.kp now r) = gateM C.cf K.kp ([now].all tmB) (if (reqC C K.kp now r).2 = 0 then (reqC C K.kp now r) else (K.kp, (reqC C K.kp now r).2)) from gate_congr (by simp) (fun hf => by
  unfold reqC
  split
  ·simp
  ·split
   ·simp
   ·split
    ·simp
    ·split
     ·simp
     ·split <;> simp)]
 have HY : ∃ y, y = gateM C.cf K.kp ([now].all tmB) (if (reqC C K.kp now r).2 = 0 then (reqC C K.kp now r) else (K.kp, (reqC C K.kp now r).2)) := ⟨_, rfl⟩
 obtain ⟨y, hy⟩ := HY
 rw [← hy]
 have HY := Lib.hid hy
 clear hy hCv
 unfold Cm.val Km.val Cm.arr Km.arr at *
 go_enter Tryz.func33, Tryz.ntmps33
 go_upto_region 1 with (fail)
 have F := HF0.out
 have isIC := HIC.out
 have isIK := HIK.out
 have isI0 := HI0.out
 have isI1 := HI1.out
 have isIR := HIR.out
 have hz := HZ.out
 clear HF0 HIC HIK HI0 HI1 HIR HZ
 generalize (((((w.alloc _).alloc _).alloc _).alloc _).alloc _) = w0 at *
 have HIR := Lib.hid isIR
 have HF := Lib.hid F
 have HZ := Lib.hid hz
 have HI0 := Lib.hid isI0
 have HI1 := Lib.hid isI1
 have KA := answer_Request_any (ct := 1) C K (w0.alloc (.cells #[.int .i64 now] 3)) (HC.out.fr (F.alloc (.cells #[.int .i64 now] 3))) (HK.out.fr (F.alloc (.cells #[.int .i64 now] 3))) (.pointer (some ⟨w.heap.size + 1 + 1, 0, none⟩)) (.pointer (some ⟨w.heap.size + 1 + 1 + 1, 0, none⟩)) (reqC C K.kp now r) (ts := [now]) (lit_rd_at rfl [.int .i64 now] 3) (by simp) ?_
 rotate_left
 ·intro wa W sb K' fa st hk hf ht
  have FW : Fr (fun _ => False) w0 W := (((Fr.refl (fun _ => False) w0).alloc (.cells #[.int .i64 now] 3)).trans fa fun _ _ e => e).trans st.f fun _ _ e => e
  have b0 : W.cell? ⟨w.heap.size + 1 + 1, 0, none⟩ = some (.int .i64 now) := (HI0.out.fr FW id).cell 0
  have b1 : W.cell? ⟨w.heap.size + 1 + 1 + 1, 0, none⟩ = some (.int .i64 r) := (HI1.out.fr FW id).cell 0
  have HST := Lib.hid st
  have HCW := Lib.hid (HC.out.fr (HF.out.trans FW fun _ _ e => e))
  have HFW := Lib.hid FW
  have KR := request_any HST.out (HC.out.fr (HF.out.trans (((Fr.refl (fun _ => False) w0).alloc (.cells #[.int .i64 now] 3)).trans fa fun _ _ e => e) fun _ _ e => e)) ((HFIT.out hf).kp hk) now r
  rw [hk] at KR
  clear hk hf ht fa st FW
  go_enter Tryz.func85, Tryz.ntmps85
  go_wp2_with fail
  refine KR.mono ?_
  rintro _ W1 ⟨rfl, L⟩
  have L := Lib.hid L
  go_wp2_with fail
  go_ret
  exact ⟨rfl, L.out⟩
 obtain ⟨p0, p1, p2, p3, p4, p5, p6, p7, p8⟩ := conf_cells0 isIC
 obtain ⟨k0, k1, k2, k3, k4, k5, k6⟩ := core_cells (K := K) isIK
 have b0 : w0.cell? ⟨w.heap.size + 1 + 1, 0, none⟩ = some (.int .i64 now) := isI0.cell 0
 have b1 : w0.cell? ⟨w.heap.size + 1 + 1 + 1, 0, none⟩ = some (.int .i64 r) := isI1.cell 0
 rw [← HY.out] at KA
 clear isIC isIK isI0 isI1 isIR F hz
 unfold Cm.val Km.val Cm.arr Km.arr at KA
 go_wp2_with fail
 refine KA.mono ?_
 rintro _ v9 ⟨K2, rfl, hk2, o2, fv⟩
 have isr := HIR.out.fr (((Fr.refl (fun _ => False) w0).alloc (.cells #[.int .i64 now] 3)).trans fv fun _ _ e => e) id
 obtain ⟨m0, m1, m2, m3, m4, m5, m6⟩ := seven isr
 have z0 := isr.frozen 0
 have z1 := isr.frozen 1
 have z2 := isr.frozen 2
 have z3 := isr.frozen 3
 have z4 := isr.frozen 4
 have z5 := isr.frozen 5
 have z6 := isr.frozen 6
 have HS8 : Hid (w.heap.size + 5 ≤ (w0.alloc (.cells #[.int .i64 now] 3)).heap.size) := Lib.hid (by have := HZ.out; simp only [World.size_alloc]; omega)
 have HO2 := Lib.hid o2
 have HK2 := Lib.hid hk2
 have HF9 := Lib.hid (HF.out.trans (((Fr.refl (fun _ => False) w0).alloc (.cells #[.int .i64 now] 3)).trans fv fun _ _ e => e) fun _ _ e => e)
 clear KA o2 hk2 fv b0 b1
 unfold Km.val Km.arr
 go_wp2_with fail
 have isR := (((((((isr.set 0 (.slice K2.A1 K2.own.length K2.c1)).set 1 (.slice K2.A2 K2.rts.length K2.c2)).set 2 (.slice K2.A3 K2.pts.length K2.c3)).set 3 (.slice K2.A4 K2.crs.length K2.c4)).set 4 (.slice K2.A5 K2.lns.length K2.c5)).set 5 (.slice K2.A6 K2.rss.length K2.c6)).set 6 (.bool K2.dirty))
 have fR := ((((((((Fr.refl (fun q => q = w.heap.size + 1 + 1 + 1 + 1) v9).setCell (p := ⟨w.heap.size + 1 + 1 + 1 + 1, 0, none⟩) (.inl rfl) (.slice K2.A1 K2.own.length K2.c1)).setCell (p := ⟨w.heap.size + 1 + 1 + 1 + 1, 1, none⟩) (.inl rfl) (.slice K2.A2 K2.rts.length K2.c2)).setCell (p := ⟨w.heap.size + 1 + 1 + 1 + 1, 2, none⟩) (.inl rfl) (.slice K2.A3 K2.pts.length K2.c3)).setCell (p := ⟨w.heap.size + 1 + 1 + 1 + 1, 3, none⟩) (.inl rfl) (.slice K2.A4 K2.crs.length K2.c4)).setCell (p := ⟨w.heap.size + 1 + 1 + 1 + 1, 4, none⟩) (.inl rfl) (.slice K2.A5 K2.lns.length K2.c5)).setCell (p := ⟨w.heap.size + 1 + 1 + 1 + 1, 5, none⟩) (.inl rfl) (.slice K2.A6 K2.rss.length K2.c6)).setCell (p := ⟨w.heap.size + 1 + 1 + 1 + 1, 6, none⟩) (.inl rfl) (.bool K2.dirty))
 simp only [List.setIfInBounds_toArray, List.set_cons_zero, List.set_cons_succ] at isR
 generalize hW : World.setCell _ _ _ = W at *
 have c0 := isR.cell 0
 have c1 := isR.cell 1
 have c2 := isR.cell 2
 have c3 := isR.cell 3
 have c4 := isR.cell 4
 have c5 := isR.cell 5
 have c6 := isR.cell 6
 have HOW : K2.Own w.heap.size W := (HO2.out.fr fR fun k hk e => by have a := (HO2.out.lt k hk).1; have b := HS8.out; omega).base (by have b := HS8.out; omega)
 have FW : Fr (fun _ => False) w W := HF9.out.trans fR fun k hk e => by omega
 refine bodyPost_ret (v := .tuple #[K2.val, .int .i64 y.2]) ?_ rfl ⟨K2, rfl, HK2.out, HOW, FW⟩
 unfold Km.val Km.arr
 simp [results, Tryz.results33, go_sem, c0, c1, c2, c3, c4, c5, c6]
end Go.Proofs.YtginfnbdnkgjbaaGreat.Lk
namespace Go.Proofs.YtginfnbdnkgjbaaGreat.Lk
open Go.RowKit
theorem fits_suits {c : Cf} {k : Kp} (h : fitsB c k = true) : checkE c = 0 ∧ suitsB c k = true := by
 unfold fitsB at h
 simpa using h
theorem fit_asks {c : Cf} {k : Kp} (h : fitsB c k = true) : ∀ x ∈ k.lns, 0 ≤ x.ask ∧ x.ask ≤ 4294967295 := by
 have h := (fits_suits h).2
 unfold suitsB at h
 simp only [Bool.and_eq_true, List.all_eq_true] at h
 intro x hx
 have := h.2.2.2.2.2.1 x hx
 unfold lnB at this
 simp only [Bool.and_eq_true, List.all_cons, tmB, inB_iff] at this
 exact this.1.1
theorem fit_own {c : Cf} {k : Kp} (h : fitsB c k = true) : ∀ o ∈ k.own, -2 ≤ o ∧ o ≤ c.rts.length := by
 have h := (fits_suits h).2
 unfold suitsB at h
 simp only [Bool.and_eq_true, List.all_eq_true] at h
 intro x hx
 exact inB_iff.1 (h.2.1 x hx)
theorem sec_iff {n : Nat} {s : Int} (h : isSecB n s = true) : 0 ≤ s ∧ s < n := by
 unfold isSecB at h
 simpa using h
theorem ask_sec {l : List Sec} {s : Go.Proofs.YtginfnbdnkgjbaaGreat.St} {n : Nd} (h : Mv.ask l s = some n) : n.sec = s.sec := by
 unfold Mv.ask at h
 split at h
 ·split at h
  ·cases h
  ·split at h
   ·injection h with h; rw [← h]
   ·cases h
 ·cases h
theorem fit_most {C : Cm} {K : Km} (h : fitsB C.cf K.kp = true) (ho : ∀ i, i < C.rs.length → ∀ n ∈ outT C i, 0 ≤ n ∧ n < K.lns.length) : Fit C K := by
 obtain ⟨hc, -⟩ := fits_suits h
 obtain ⟨l1, l2, l3, l4, l5, l6⟩ := fits_lens h
 have l1 : K.own.length = C.l.length := l1
 have l2 : K.rts.length = C.rs.length := l2.trans (by unfold Cm.cf; simp)
 have l3 : K.pts.length = C.l.length := l3
 have l4 : K.crs.length = C.cr.length := l4
 obtain ⟨-, -, h3, h4, h5, -⟩ := check_parts hc
 have h4 : C.rs.length ≤ 12 := by unfold Cm.cf at h4; simpa using h4
 have h3 : C.cr.length ≤ 4 := by
  rw [Bool.and_eq_true, decide_eq_true_eq] at h3
  exact h3.1
 have hs : ∀ r ∈ C.rs, r.flank.length ≤ 32 ∧ r.over.length ≤ 1 ∧ r.path.length ≤ 8 := fun r hr => right_short (routesE_zero h5 r.rt (List.mem_map_of_mem hr))
 have hr : ∀ r ∈ C.rs, Route C.l C.js C.sg r.rt := fun r hr => route_right hc (List.mem_map_of_mem hr)
 have hp : ∀ r ∈ C.rs, ∀ x ∈ r.path, 0 ≤ x.sec ∧ x.sec < C.l.length := fun r q x hx => sec_iff ((hr r q).path x hx)
 have hlk : ∀ r ∈ C.rs, ∀ x ∈ locksM r.rt, 0 ≤ x ∧ x < C.l.length := fun r q x hx => sec_iff ((hr r q).locks x hx).1
 have lat : ∀ i, i < C.rs.length → locksR C (i : Nat) = locksM (C.rs.getD i default).rt := fun i hi => by
  unfold locksR
  rw [if_pos (by unfold isSecB; simp; omega), Int.toNat_natCast]
 have mem : ∀ i, i < C.rs.length → C.rs.getD i default ∈ C.rs := fun i hi => by rw [rs_at hi]; exact List.getElem_mem hi
 refine ⟨l2, fit_asks h, fun o q => ?_, fun r q => ?_, fun r q => ?_, fun i hi => ?_, fun i hi => ?_, fun i hi => ?_, ho, hp, fun i hi => ?_⟩
 ·have a := fit_own h o q
  have b : (C.cf.rts.length : Int) = C.rs.length := by unfold Cm.cf; simp
  omega
 ·have a := hs r q
  omega
 ·have a := hs r q
  omega
 ·rw [lat i hi, l1]
  exact hlk _ (mem i hi)
 ·intro n hn
  rw [Mv.needs_at hi] at hn
  rw [l3]
  rcases List.mem_append.1 hn with hn | hn
  ·obtain ⟨x, hx, hxn⟩ := List.mem_filterMap.1 hn
   rw [ask_sec hxn]
   exact hp _ (List.getElem_mem hi) x hx
  ·exact hlk _ (List.getElem_mem hi) _ ((locksM_mem _ _).2 (by
    unfold rawLocks
    exact List.mem_append.2 (.inr (List.mem_append.2 (.inr (List.mem_map_of_mem hn))))))
 ·intro n hn
  rw [Mv.crs_at hi] at hn
  unfold Mv.crsT at hn
  obtain ⟨k, hk, rfl⟩ := List.mem_map.1 hn
  have := List.mem_range.1 (List.mem_filter.1 hk).1
  rw [l4]
  show (0 : Int) ≤ (k : Int) ∧ (k : Int) < _
  omega
 ·have a := hs _ (List.getElem_mem hi)
  refine ⟨?_, ?_, ?_, ?_, by omega⟩
  ·rw [lat i hi, rs_at hi]
   refine Nat.le_trans (locksM_short _) ?_
   unfold rawLocks
   simp only [List.length_append, List.length_map, Ro.rt]
   omega
  ·rw [Mv.needs_at hi, List.length_append]
   have b := List.length_filterMap_le (Mv.ask C.l) C.rs[i].path
   omega
  ·rw [Mv.crs_at hi]
   have b := Mv.crsT_le C.rs[i].path C.cr C.cr.length
   omega
  ·have b := linT_le C.l C.rs[i].path C.rs[i].path.length
   unfold outT
   rw [rs_at hi]
   omega
theorem line_sec {l : List Sec} (h : sectionsB l = true) {j : Nat} (hj : j < l.length) : 0 ≤ lineOf l j ∧ lineOf l j ≤ 3 := by
 rw [lineOf_at hj]
 have a := sections_at h j hj
 unfold secOkB at a
 simp at a
 omega
theorem fit_all {C : Cm} {K : Km} (h : fitsB C.cf K.kp = true) : Fit C K := by
 refine fit_most h fun i hi n hn => ?_
 obtain ⟨hc, -⟩ := fits_suits h
 obtain ⟨l1, l2, l3, l4, l5, l6⟩ := fits_lens h
 have l5 : K.lns.length = 4 := l5
 obtain ⟨h1, -⟩ := check_parts hc
 unfold checkB at h1
 simp only [Bool.and_eq_true] at h1
 unfold outT linT at hn
 rw [rs_at hi] at hn
 obtain ⟨a, b⟩ := List.mem_filter.1 hn
 obtain ⟨x, hx, rfl⟩ := List.mem_map.1 a
 have q := sec_iff ((route_right hc (r := C.rs[i].rt) (List.mem_map_of_mem (List.getElem_mem hi))).path x (List.mem_of_mem_take hx))
 have := line_sec (l := C.l) h1.2.1 (j := x.sec.toNat) (by have : x.sec < (C.l.length : Int) := q.2; omega)
 rw [l5]
 omega
end Go.Proofs.YtginfnbdnkgjbaaGreat.Lk
namespace Go.Proofs.YtginfnbdnkgjbaaGreat.Lk
open Go.RowKit
theorem lines_sec (js : List Jo) : ∀ (l : List Sec) (i : Nat) (t : List Bool), linesB js i t l = true → ∀ j (hj : j < l.length), l[j].line ≠ 0 → l[j].kind = 0 ∧ nextOk js ((i + j : Nat) : Int) 1 = false
 | [], _, _, _, j, hj, _ => by simp at hj
 | s :: r, i, t, h, j, hj, h0 => by
  unfold linesB at h
  cases j with
  | zero =>
   simp only [List.getElem_cons_zero] at h0 ⊢
   rw [if_neg h0] at h
   simp only [Bool.and_eq_true, beq_iff_eq, Bool.not_eq_true'] at h
   exact ⟨h.1.2.1, h.1.2.2⟩
  | succ j =>
   have ih := fun t h => lines_sec js r (i + 1) t h j (by simpa using hj) (by simpa using h0)
   simp only [List.getElem_cons_succ]
   rw [show i + (j + 1) = i + 1 + j by omega]
   split at h
   ·exact ih _ h
   ·rw [Bool.and_eq_true] at h
    exact ih _ h.2
def onLine (l : List Sec) (p : List Go.Proofs.YtginfnbdnkgjbaaGreat.St) : List Int := (p.map fun s => lineOf l s.sec.toNat).filter fun n => decide (n ≠ 0)
theorem linT_all (l : List Sec) (p : List Go.Proofs.YtginfnbdnkgjbaaGreat.St) : linT l p p.length = onLine l p := by
 unfold linT onLine
 rw [List.take_length]
theorem track_ways {i o : Int} (h : posOk 0 i o = true) : (i = 0 ∧ o = 1) ∨ (i = 1 ∧ o = 0) := by
 unfold posOk waysM at h
 simp [posOkL, farOk, farOut] at h
 omega
theorem lineM_pos {l : List Sec} : ∀ p : List Go.Proofs.YtginfnbdnkgjbaaGreat.St, 0 ≤ lineM l p
 | [] => by simp [lineM]
 | x :: r => by have := lineM_pos (l := l) r; unfold lineM; omega
theorem onLine_one {l : List Sec} {js : List Jo} (hs : sectionsB l = true) (hj : jointsB l js = true) (hl : linesB js 0 tk0 l = true) : ∀ (p : List Go.Proofs.YtginfnbdnkgjbaaGreat.St) (ok : Bool) (s i : Int), (ok = true → nextOk js s i = true) → hangsB l js ok s i p = true → (∀ x ∈ p, isSecB l.length x.sec = true) → onLine l p = if lineM l p = 0 then [] else [lineM l p]
 | [], _, _, _, _, _, _ => by simp [onLine, lineM]
 | x :: r, ok, s, i, ho, h, hp => by
  unfold hangsB at h
  simp only [Bool.and_eq_true, decide_eq_true_eq] at h
  obtain ⟨h1, h2, h3, h4, h5⟩ := h
  have hx := sec_iff (hp x (List.mem_cons_self ..))
  have hn := ho h1
  obtain ⟨k, hk⟩ := Int.eq_ofNat_of_zero_le hx.1
  have hkl : k < l.length := by omega
  have hln := line_sec hs hkl
  have ih := onLine_one hs hj hl r (nextOk js s x.out) (nextS js s x.out) (nextE js s x.out) (fun hb => (next_back hj hb).1) h5 (fun y hy => hp y (List.mem_cons_of_mem _ hy))
  have hm := lineM_pos (l := l) r
  by_cases h0 : lineOf l k = 0
  ·have e1 : onLine l (x :: r) = onLine l r := by
    unfold onLine
    rw [List.map_cons, List.filter_cons, hk, Int.toNat_natCast, h0]
    simp
   have e2 : lineM l (x :: r) = lineM l r := by
    show max (lineOf l x.sec.toNat) (lineM l r) = _
    rw [hk, Int.toNat_natCast, h0]
    omega
   rw [e1, e2, ih]
  ·obtain ⟨q1, q2⟩ := lines_sec js l 0 tk0 hl k hkl (by rw [← lineOf_at hkl]; exact h0)
   have hsk : s = (k : Int) := h2.symm.trans hk
   subst hsk
   rw [Nat.zero_add] at q2
   rw [Int.toNat_natCast, kindOf_at hkl, q1] at h4
   rcases track_ways h4 with ⟨-, eo⟩ | ⟨ei, -⟩
   ·rw [eo, q2] at h5
    cases r with
    | nil =>
     unfold onLine lineM lineM
     rw [hk, Int.toNat_natCast]
     rw [show max (lineOf l k) 0 = lineOf l k by omega, if_neg h0]
     simp [hk, h0]
    | cons y r =>
     unfold hangsB at h5
     simp at h5
   ·rw [ei, q2] at hn
    cases hn
theorem outT_fit {C : Cm} (hc : checkE C.cf = 0) {i : Nat} (hi : i < C.rs.length) : outT C i = if lineM C.l C.rs[i].path = 0 then [] else [lineM C.l C.rs[i].path] := by
 have hm : C.rs[i].rt ∈ C.cf.rts := List.mem_map_of_mem (List.getElem_mem hi)
 have hp := path_in hc hm
 obtain ⟨h1, -, -, -, h5, -⟩ := check_parts hc
 obtain ⟨a, -, -⟩ := errR_parts (routesE_zero h5 _ hm)
 unfold checkB at h1
 unfold routeB at a
 simp only [Bool.and_eq_true] at h1 a
 unfold outT
 rw [rs_at hi, linT_all]
 exact onLine_one h1.2.1 h1.2.2.1 h1.2.2.2 C.rs[i].path _ _ _ (fun hb => (next_back h1.2.2.1 hb).1) a.2.2.2.2.1 hp
theorem askLs_one (n : Int) (lns : List Ln) (h : n ≠ 0) : askLs [n] lns = askL n lns := by
 unfold askLs askLs askL askAt
 rw [if_neg h]
theorem askLs_fit (n : Int) (lns : List Ln) : askLs (if n = 0 then [] else [n]) lns = askL n lns := by
 by_cases h : n = 0
 ·subst h; rfl
 ·rw [if_neg h, askLs_one n lns h]
theorem crs_fit (cr : List Int) (p : List Go.Proofs.YtginfnbdnkgjbaaGreat.St) : Mv.crsT p cr cr.length = crsM cr p := by
 unfold Mv.crsT crsM
 congr 1
theorem ask_fit (l : List Sec) (s : Go.Proofs.YtginfnbdnkgjbaaGreat.St) (h : isSecB l.length s.sec = true) : Mv.ask l s = ask l s := by
 have q := sec_iff h
 obtain ⟨k, hk⟩ := Int.eq_ofNat_of_zero_le q.1
 have hkl : k < l.length := by omega
 unfold Mv.ask ask rkind
 rw [if_pos h, if_pos q.1, hk, Int.toNat_natCast, List.getElem?_eq_getElem hkl, kindOf_at hkl]
 simp
end Go.Proofs.YtginfnbdnkgjbaaGreat.Lk
namespace Go.Proofs.YtginfnbdnkgjbaaGreat.Lk
open Go.RowKit
theorem needs_fit {C : Cm} (hc : checkE C.cf = 0) {i : Nat} (hi : i < C.rs.length) : Mv.needs C (i : Int) = needsM C.l C.rs[i].rt := by
 have hm : C.rs[i].rt ∈ C.cf.rts := List.mem_map_of_mem (List.getElem_mem hi)
 have hp : ∀ x ∈ C.rs[i].path, isSecB C.l.length x.sec = true := path_in hc hm
 rw [Mv.needs_at hi]
 unfold needsM
 show List.filterMap (Mv.ask C.l) C.rs[i].path ++ C.rs[i].flank = List.filterMap (ask C.l) C.rs[i].path ++ C.rs[i].flank
 congr 1
 have : ∀ p : List Go.Proofs.YtginfnbdnkgjbaaGreat.St, (∀ x ∈ p, isSecB C.l.length x.sec = true) → List.filterMap (Mv.ask C.l) p = List.filterMap (ask C.l) p := by
  intro p
  induction p with
  | nil => intro _; rfl
  | cons x r ih =>
   intro h
   rw [List.filterMap_cons, List.filterMap_cons, ask_fit _ _ (h x (List.mem_cons_self ..)), ih fun y hy => h y (List.mem_cons_of_mem _ hy)]
 exact this _ hp
theorem asked_fit {K : Kp} {n : Int} (ha : ∀ x ∈ K.lns, 0 ≤ x.ask ∧ x.ask ≤ 4294967295) (hn : 0 ≤ n ∧ n < K.lns.length) : askedB K.lns n = decide (4294967295 ≤ askAt K.lns n) := by
 obtain ⟨j, rfl⟩ := Int.eq_ofNat_of_zero_le hn.1
 have hj : j < K.lns.length := by omega
 unfold askedB askAt
 rw [Int.toNat_natCast, show K.lns.getD j default = K.lns[j] by rw [List.getD_eq_getElem?_getD, List.getElem?_eq_getElem hj]; rfl]
 have := ha _ (List.getElem_mem hj)
 apply decide_eq_decide.2
 omega
theorem reqC_fit {C : Cm} {K : Km} (h : fitsB C.cf K.kp = true) (now r : Int) : reqC C K.kp now r = reqM C.cf K.kp now r := by
 have F := fit_all h
 have hc := (fits_suits h).1
 have hlen : C.cf.rts.length = C.rs.length := by unfold Cm.cf; simp
 unfold reqC reqM
 rw [hlen]
 cases hi : isSecB C.rs.length r
 ·rw [if_pos rfl, if_pos rfl]
 ·rw [if_neg (show ¬ (true = false) by decide), if_neg (show ¬ (true = false) by decide)]
  obtain ⟨i, rfl, hj⟩ := isSecB_true hi
  have hrt : (C.rs.getD i default).rt = C.rs[i].rt := by rw [rs_at hj]
  have hra : rtAt C.cf (i : Int) = C.rs[i].rt := by
   unfold rtAt
   rw [Int.toNat_natCast]
   exact rt_at hj
  have hL : locksR C (i : Int) = locksM C.rs[i].rt := by
   unfold locksR
   rw [if_pos hi, Int.toNat_natCast, hrt]
  have hX : Mv.crs C (i : Int) = crsM C.cr C.rs[i].path := by rw [Mv.crs_at hj, crs_fit]
  have hO := outT_fit hc hj
  have hN := needs_fit hc hj
  have ho := F.outs i hj
  have hask := F.asks
  unfold reqE reqK
  rw [hra, Int.toNat_natCast, hrt, hL, hX, hN]
  show (if (rsAt K.kp i).st ≠ 0 then (K.kp, 28) else if (locksM C.rs[i].rt).any (aheadB C.sg (C.rs.map Ro.rt) K.kp.rts) = true then (K.kp, 23) else if (locksM C.rs[i].rt).all (canB (C.rs.map Ro.rt) K.kp.own C.rs[i].rt) = false then (K.kp, 22) else if (outT C i).any (askedB K.kp.lns) = true then (K.kp, 5) else _ : Kp × Int) = _
  have h5 : (outT C i).any (askedB K.kp.lns) = true ↔ lineM C.l C.rs[i].path ≠ 0 ∧ 4294967295 ≤ askAt K.kp.lns (lineM C.l C.rs[i].path) := by
   rw [hO] at ho ⊢
   by_cases h0 : lineM C.l C.rs[i].path = 0
   ·rw [if_pos h0]; simp [h0]
   ·rw [if_neg h0] at ho ⊢
    rw [List.any_cons, List.any_nil, Bool.or_false, asked_fit (K := K.kp) hask (ho _ (List.mem_cons_self ..)), decide_eq_true_eq]
    simp [h0]
  have hB : askLs (outT C i) K.kp.lns = askL (lineM C.l C.rs[i].path) K.kp.lns := by rw [hO, askLs_fit]
  rw [hB]
  by_cases e1 : (rsAt K.kp (i : Int)).st ≠ 0
  ·rw [if_pos e1]
   simp [e1]
  ·rw [if_neg e1, if_neg e1]
   by_cases e2 : (locksM C.rs[i].rt).any (aheadB C.sg (C.rs.map Ro.rt) K.kp.rts) = true
   ·have e2' : (locksM C.rs[i].rt).any (aheadB C.cf.sigs C.cf.rts K.kp.rts) = true := e2
    rw [if_pos e2, if_pos e2']
    simp
   ·have e2' : ¬ (locksM C.rs[i].rt).any (aheadB C.cf.sigs C.cf.rts K.kp.rts) = true := e2
    rw [if_neg e2, if_neg e2']
    by_cases e3 : (locksM C.rs[i].rt).all (canB (C.rs.map Ro.rt) K.kp.own C.rs[i].rt) = false
    ·have e3' : (locksM C.rs[i].rt).all (canB C.cf.rts K.kp.own C.rs[i].rt) = false := e3
     rw [if_pos e3, if_pos e3']
     simp
    ·have e3' : ¬ (locksM C.rs[i].rt).all (canB C.cf.rts K.kp.own C.rs[i].rt) = false := e3
     rw [if_neg e3, if_neg e3']
     by_cases e4 : (outT C i).any (askedB K.kp.lns) = true
     ·have e4' : lineM C.cf.secs C.rs[i].rt.path ≠ 0 ∧ 4294967295 ≤ askAt K.kp.lns (lineM C.cf.secs C.rs[i].rt.path) := h5.1 e4
      rw [if_pos e4, if_pos e4']
      simp
     ·have e4' : ¬ (lineM C.cf.secs C.rs[i].rt.path ≠ 0 ∧ 4294967295 ≤ askAt K.kp.lns (lineM C.cf.secs C.rs[i].rt.path)) := fun q => e4 (h5.2 q)
      rw [if_neg e4, if_neg e4', if_pos rfl]
      rfl
theorem call_Request_fit (C : Cm) (K : Km) (w : World) (hC : C.Ok w) (hK : K.Ok w) (now r : Int) :
  Calls Tryz.prog 33 #[C.val, K.val, .int .i64 now, .int .i64 r] w (AnsE w (gateM C.cf K.kp (tmB now) (reqM C.cf K.kp now r))) := by
 have := call_Request_any C K w hC hK now r fit_all
 rwa [gate_congr rfl (fun h => reqC_fit h now r)] at this
end Go.Proofs.YtginfnbdnkgjbaaGreat.Lk
namespace Go.Proofs.YtginfnbdnkgjbaaGreat.Lk
structure FitP (c : Cf) (k : Kp) : Prop where
 chk : checkE c = 0
 l1 : k.own.length = c.secs.length
 l2 : k.rts.length = c.rts.length
 l3 : k.pts.length = c.secs.length
 l4 : k.crs.length = c.crs.length
 l5 : k.lns.length = 4
 l6 : k.rss.length = c.secs.length
 own : ∀ o ∈ k.own, inB (-2) c.rts.length o = true
 rts : ∀ j (h : j < c.rts.length) (h' : j < k.rts.length), rsB c.rts[j] k.rts[j] = true
 pts : ∀ m ∈ k.pts, moB m = true
 crs : ∀ m ∈ k.crs, moB m = true
 lns : ∀ l ∈ k.lns, lnB l = true
 rss : ∀ n ∈ k.rss, inB 0 4294967296 n = true
theorem rtsB_iff : ∀ (r : List Rt) (s : List Rs), rtsB r s = true ↔ ∀ j (h : j < r.length) (h' : j < s.length), rsB r[j] s[j] = true
 | [], s => by simp [rtsB]
 | x :: r, [] => by simp [rtsB]
 | x :: r, y :: s => by
  have ih := rtsB_iff r s
  rw [rtsB, Bool.and_eq_true, ih]
  constructor
  ·rintro ⟨a, b⟩ j h h'
   cases j with
   | zero => exact a
   | succ j => exact b j (by simpa using h) (by simpa using h')
  ·intro h
   refine ⟨h 0 (by simp) (by simp), fun j h1 h2 => ?_⟩
   have := h (j + 1) (by simpa using h1) (by simpa using h2)
   simpa using this
theorem fits_iff {c : Cf} {k : Kp} : fitsB c k = true ↔ FitP c k := by
 unfold fitsB suitsB lensB
 simp only [Bool.and_eq_true, decide_eq_true_eq, List.all_eq_true, rtsB_iff]
 constructor
 ·rintro ⟨h, ⟨l1, l2, l3, l4, l5, l6⟩, o, r, p, x, l, s⟩
  exact ⟨h, l1, l2, l3, l4, l5, l6, o, r, p, x, l, s⟩
 ·intro h
  exact ⟨h.chk, ⟨h.l1, h.l2, h.l3, h.l4, h.l5, h.l6⟩, h.own, h.rts, h.pts, h.crs, h.lns, h.rss⟩
theorem tm_iff {n : Int} : tmB n = true ↔ 0 ≤ n ∧ n ≤ 4294967295 := inB_iff
theorem moB_iff {m : Mo} : moB m = true ↔ (0 ≤ m.cmd ∧ m.cmd ≤ 2) ∧ -1 ≤ m.oth ∧ m.oth ≤ 4294967295 := by
 unfold moB
 rw [Bool.and_eq_true, inB_iff, inB_iff]
theorem rsB_iff {r : Rt} {s : Rs} : rsB r s = true ↔ (0 ≤ s.st ∧ s.st ≤ 5) ∧ (0 ≤ s.nxt ∧ s.nxt ≤ r.path.length) ∧ (0 ≤ s.since ∧ s.since ≤ 4294967295) ∧ 0 ≤ s.mark ∧ s.mark ≤ 4294967295 := by
 unfold rsB
 rw [Bool.and_eq_true, Bool.and_eq_true, Bool.and_eq_true, inB_iff, inB_iff, tm_iff, tm_iff]
theorem new_fit {c : Cf} (h : checkE c = 0) {now : Int} (hn : tmB now = true) : FitP c (newM c now) := by
 have hn := tm_iff.1 hn
 refine ⟨h, by simp [newM], by simp [newM], by simp [newM], by simp [newM], rfl, by simp [newM], ?_, ?_, ?_, ?_, ?_, ?_⟩
 ·intro o ho
  obtain ⟨_, _, rfl⟩ := List.mem_map.1 ho
  exact inB_iff.2 (by omega)
 ·intro j h1 h2
  simp only [newM, List.getElem_map]
  exact rsB_iff.2 (by dsimp only; omega)
 ·intro m hm
  obtain ⟨s, _, rfl⟩ := List.mem_map.1 hm
  refine moB_iff.2 ?_
  dsimp only
  split <;> omega
 ·intro m hm
  obtain ⟨s, _, rfl⟩ := List.mem_map.1 hm
  exact moB_iff.2 (by dsimp only; omega)
 ·intro l hl
  have hl : l ∈ List.replicate 4 (default : Ln) := hl
  rw [(List.mem_replicate.1 hl).2]
  rfl
 ·intro n hn
  obtain ⟨_, _, rfl⟩ := List.mem_map.1 hn
  rfl
theorem FitP.with_own {c : Cf} {k : Kp} (h : FitP c k) {o : List Int} (hl : o.length = k.own.length) (ho : ∀ x ∈ o, inB (-2) c.rts.length x = true) : FitP c { k with own := o } :=
 { h with l1 := hl.trans h.l1, own := ho }
theorem FitP.with_rt {c : Cf} {k : Kp} (h : FitP c k) {j : Nat} {x : Rs} (hx : ∀ hj : j < c.rts.length, rsB c.rts[j] x = true) : FitP c { k with rts := k.rts.set j x } :=
 { h with
  l2 := (by show (k.rts.set j x).length = _; rw [List.length_set]; exact h.l2)
  rts := fun i h1 h2 => by
   have h2' : i < k.rts.length := by simpa using h2
   show rsB c.rts[i] ((k.rts.set j x)[i]'h2) = true
   rw [List.getElem_set]
   split
   ·rename_i e
    subst e
    exact hx h1
   ·exact h.rts i h1 h2' }
theorem FitP.with_dirty {c : Cf} {k : Kp} (h : FitP c k) (b : Bool) : FitP c { k with dirty := b } := { h with }
theorem FitP.rt_at {c : Cf} {k : Kp} (h : FitP c k) {j : Nat} (hj : j < c.rts.length) : rsB c.rts[j] (rsAt k j) = true := by
 have h2 : j < k.rts.length := by rw [h.l2]; exact hj
 have := h.rts j hj h2
 unfold rsAt
 rw [Int.toNat_natCast, List.getD_eq_getElem?_getD, List.getElem?_eq_getElem h2]
 exact this
theorem cmd_ok {m : Mo} {now cmd : Int} (h : moB m = true) (hn : tmB now = true) (hc : 0 ≤ cmd ∧ cmd ≤ 2) : moB (cmdM m now cmd) = true := by
 have h := moB_iff.1 h
 have hn := tm_iff.1 hn
 refine moB_iff.2 ?_
 unfold cmdM
 dsimp only
 split <;> omega
theorem all_set {α : Type} {p : α → Bool} {l : List α} {j : Nat} {x : α} (h : ∀ m ∈ l, p m = true) (hx : p x = true) : ∀ m ∈ l.set j x, p m = true := by
 intro m hm
 rcases List.mem_or_eq_of_mem_set hm with hm | rfl
 ·exact h m hm
 ·exact hx
theorem getD_ok {l : List Mo} (h : ∀ m ∈ l, moB m = true) (j : Nat) : moB (l.getD j default) = true := by
 rw [List.getD_eq_getElem?_getD]
 cases e : l[j]? with
 | none => rfl
 | some m => exact h m (List.mem_of_getElem? e)
theorem rt_mem {c : Cf} {j : Nat} (hj : j < c.rts.length) : rtAt c j = c.rts[j] := by
 unfold rtAt
 rw [Int.toNat_natCast, List.getD_eq_getElem?_getD, List.getElem?_eq_getElem hj]
 rfl
end Go.Proofs.YtginfnbdnkgjbaaGreat.Lk
namespace Go.Proofs.YtginfnbdnkgjbaaGreat.Lk
open Go.RowKit
end Go.Proofs.YtginfnbdnkgjbaaGreat.Lk

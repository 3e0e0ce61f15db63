/- numbers at controller.has and at Shape's third closure. Written by gen/nums.py. -/
import Derived.Test.YtmohefkingnknaaThas
import Derived.Test.YtmohefkingnknaaTen
namespace Go.Proofs.Ytmohefkingnknaa.Te
open Go.RowKit

theorem c3_any {w : World} {C : Cf} {cb : Nat} {oc : Int} (hb : Is w cb 93 (C.ctl oc).toArray) (hC : Rd w C.A1 (cellsS C.l)) (hl : C.l.length ≤ 17592186044416) (s : Sg) :
    Calls Try.prog 53 #[.agg #[.int .i64 s.sec, .int .i64 s.fin], .pointer (some ⟨cb, 0, none⟩)] w fun e w' => e = .returned (.bool (sgB C.l oc s)) ∧ Fr (fun _ => False) w w' := by
  have f0 : Fr (fun _ => False) w (w.alloc (.cells #[.int .i64 s.sec, .int .i64 s.fin] 62)) := (Fr.refl _ w).alloc _
  have K := has_any (hC.fr f0 fun _ _ => id) hl oc s.sec
  have ib := hb.fr f0 id
  obtain ⟨A1, c1, l, A2, n2, c2, A3, c3, sg, A4, c4, cr, A5, n5, c5, ⟨ta, tb, th, tu⟩⟩ := C
  unfold sgB
  simp only at *
  generalize hasB l oc s.sec = B at *
  unfold Cf.ctl Cf.cells at *
  simp only [List.cons_append, List.nil_append] at *
  obtain ⟨p0, p1, p2, p3, p4, p5, p6, p7, p8, p9⟩ := ten_cells9 ib
  clear hb hC hl ib
  go_enter Try.func53, Try.ntmps53
  go_wp2_with fail
  refine K.mono ?_
  rintro e w1 ⟨rfl, f1⟩
  go_wp2_with fail
  go_ret
  exact ⟨rfl, fr_nil f0 f1⟩
set_option maxHeartbeats 1000000 in
set_option maxRecDepth 100000 in
theorem nums3_any {w : World} {C : Cf} (hC : Rd w C.A1 (cellsS C.l)) (hCl : C.l.length ≤ 17592186044416) (oc : Int) {A : Option Addr} {c : Nat} {l : List Int} (hl : Rd w A (l.map (Value.int .i64))) (hll : l.length ≤ 17592186044416) :
    Calls Try.prog 50 #[.slice A l.length c, .func (.func 51) #[.agg (C.ctl oc).toArray] #[]] w fun e w' => ∃ x : L3, e = .returned x.val ∧ x.l = idx (hasB C.l oc) 0 l ∧ x.Ok w' ∧ (∀ q, blk x.A = some q → w.heap.size ≤ q ∧ q < w'.heap.size) ∧ Fr (fun _ => False) w w' := by
  obtain ⟨i0, hi0, hz0, hz1, hz2⟩ := info_parts Try.infoI
  have K := fun (x : Int) (W : World) (f : Fr (fun _ => False) w W) => has_any (hC.fr f fun _ _ => id) hCl oc x
  have HLL := Lib.hid hll
  have hl9 : (l.length : Int) ≤ 17592186044416 := by omega
  clear hll
  go_enter Try.func50, Try.ntmps50
  go_wp2_with fail
  go_loopw [5, 10] (fun v5 v10 wr => ∃ (k : Nat) (L : List Int) (B : Option Addr) (d : Nat), k ≤ l.length ∧ v10 = .int .i64 (k : Nat) ∧ L = idx (hasB C.l oc) 0 (l.take k) ∧ v5 = .slice B L.length d ∧ wr.ownsRow w.heap.size 3 1 (.slice B L.length d) L.length (L.map (Value.int .i64)) ∧ Fr (fun _ => False) w wr) (fun _ i _ => l.length - (intOf i).toNat)
  case atStart => exact ⟨0, [], none, 0, Nat.zero_le _, rfl, rfl, rfl, World.ownsRow_nil w _ _ _, Fr.refl _ _⟩
  case round =>
    obtain ⟨k, L, B, d, hk, rfl, hL, rfl, hown, F⟩ := hrel
    have hLl : L.length ≤ k := by
      rw [hL]
      exact Nat.le_trans (idx_le _ _ _) (by rw [List.length_take]; omega)
    by_cases hlt : k < l.length
    · obtain ⟨g, o, rfl, _, q0⟩ := rd_int (hl.fr F fun _ _ => id) hlt
      have hsn := idx_snoc (hasB C.l oc) (l.take k) 0 l[k]
      have htk : (l.take k).length = k := by rw [List.length_take]; omega
      rw [Nat.zero_add, htk, ← List.take_succ_eq_append_getElem hlt, ← hL] at hsn
      have KX := K l[k] _ F
      have hb1 : L.length + 1 ≤ 140737488355328 := by have := HLL.out; omega
      have hb2 : (L.length + 1) * 8 ≤ 140737488355328 := by have := HLL.out; omega
      have HB1 := Lib.hid hb1
      have HB2 := Lib.hid hb2
      have HSN := Lib.hid hsn
      clear hb1 hb2 hLl htk hsn hL K
      generalize l[k] = x at *
      generalize hv : hasB C.l oc x = bb at *
      clear hv
      have hown2 : wr.ownsRow w.heap.size 3 1 (.slice B L.length d) L.length (L.map (Value.int .i64)) := hown
      have F2 : Fr (fun _ => False) w wr := F
      go_wp2_with fail
      refine KX.mono ?_
      rintro e w3 ⟨rfl, f3⟩
      have hown3 := wide_fr hown2 f3 fun _ _ => id
      have F3 := fr_nil F2 f3
      clear hown hown2 F2 f3 KX
      cases bb with
      | true =>
        have hlo := World.ownsRow.lt hown3
        have hbase : w.heap.size ≤ (w3.alloc (.cells #[.int .i64 (k : Nat)] 3)).heap.size := (F3.alloc _).size
        go_wp2_with (at_builtin; refine wpList_append_wide _ rfl (.tmp 18) (.tmp 20) 22 rfl w.heap.size 3 i0 _ 1 8 Try.underlying22 hi0 hz0 hz1 hz2 rfl (by decide) (.slice B L.length d) L.length (L.map (Value.int .i64)) rfl (hown3.alloc _) (some ⟨w3.heap.size, 0, none⟩) 1 1 [.int .i64 (k : Nat)] rfl rfl (lit_rd rfl _ _) (by simp [Value.oneCell']) (by have := HB1.out; unfold maxLen; omega) HB2.out hbase ?_; intro v6 w6 hown6 hg6 hat6; obtain ⟨A6, c6, rfl, _, _, _, _⟩ := wide_form hown6)
        have F6 := (F3.alloc (.cells #[.int .i64 (k : Nat)] 3)).grown hg6 fun j hj => .inr (hlo j hj).1
        have hown7 : w6.ownsRow w.heap.size 3 1 (.slice A6 (L ++ [((k : Nat) : Int)]).length c6) (L ++ [((k : Nat) : Int)]).length ((L ++ [((k : Nat) : Int)]).map (Value.int .i64)) := by
          rw [List.length_append, List.map_append]
          exact hown6
        have HO7 := Lib.hid hown7
        clear hg6 hat6 hlo hown6 hown7 hbase hown3 F3
        go_wp2_with fail
        go_roundw
        case rel => exact ⟨k + 1, L ++ [((k : Nat) : Int)], A6, c6, by omega, by go_num, by rw [HSN.out]; rfl, by rw [List.length_append]; rfl, HO7.out, F6⟩
        case measure => simp [intOf]; omega
      | false =>
        go_wp2_with fail
        go_roundw
        case rel => exact ⟨k + 1, L, B, d, by omega, by go_num, by rw [HSN.out]; simp, rfl, hown3, F3⟩
        case measure => simp [intOf]; omega
    · have hkl : k = l.length := by omega
      rw [hkl, List.take_length] at hL
      have HL := Lib.hid hL
      have HOW := Lib.hid hown
      have hLb : L.length ≤ 17592186044416 := by have := HLL.out; omega
      have HLB := Lib.hid hLb
      clear hL hown hkl hLl hLb
      go_wp2_with fail
      go_ret
      obtain ⟨o1, o2⟩ := own_l3 HOW.out HLB.out
      exact ⟨⟨B, L, d⟩, rfl, HL.out, o1, o2, F⟩
set_option maxHeartbeats 1000000 in
set_option maxRecDepth 100000 in
theorem nums4_any {w : World} {C : Cf} {cb : Nat} {oc : Int} (hb : Is w cb 93 (C.ctl oc).toArray) (hC : Rd w C.A1 (cellsS C.l)) (hCl : C.l.length ≤ 17592186044416) {A : Option Addr} {c : Nat} {l : List Sg} (hl : Rd w A (cellsG l)) (hll : l.length ≤ 17592186044416) :
    Calls Try.prog 52 #[.slice A l.length c, .func (.func 53) #[] #[.pointer (some ⟨cb, 0, none⟩)]] w fun e w' => ∃ x : L3, e = .returned x.val ∧ x.l = idx (sgB C.l oc) 0 l ∧ x.Ok w' ∧ (∀ q, blk x.A = some q → w.heap.size ≤ q ∧ q < w'.heap.size) ∧ Fr (fun _ => False) w w' := by
  obtain ⟨i0, hi0, hz0, hz1, hz2⟩ := info_parts Try.infoI
  have K := fun (x : Sg) (W : World) (f : Fr (fun _ => False) w W) => c3_any (hb.fr f id) (hC.fr f fun _ _ => id) hCl x
  have HLL := Lib.hid hll
  have hl9 : (l.length : Int) ≤ 17592186044416 := by omega
  clear hll
  go_enter Try.func52, Try.ntmps52
  go_wp2_with fail
  go_loopw [5, 10] (fun v5 v10 wr => ∃ (k : Nat) (L : List Int) (B : Option Addr) (d : Nat), k ≤ l.length ∧ v10 = .int .i64 (k : Nat) ∧ L = idx (sgB C.l oc) 0 (l.take k) ∧ v5 = .slice B L.length d ∧ wr.ownsRow w.heap.size 3 1 (.slice B L.length d) L.length (L.map (Value.int .i64)) ∧ Fr (fun _ => False) w wr) (fun _ i _ => l.length - (intOf i).toNat)
  case atStart => exact ⟨0, [], none, 0, Nat.zero_le _, rfl, rfl, rfl, World.ownsRow_nil w _ _ _, Fr.refl _ _⟩
  case round =>
    obtain ⟨k, L, B, d, hk, rfl, hL, rfl, hown, F⟩ := hrel
    have hLl : L.length ≤ k := by
      rw [hL]
      exact Nat.le_trans (idx_le _ _ _) (by rw [List.length_take]; omega)
    by_cases hlt : k < l.length
    · obtain ⟨g, o, rfl, _, q0, q1⟩ := rd_sg (hl.fr F fun _ _ => id) hlt
      have hsn := idx_snoc (sgB C.l oc) (l.take k) 0 l[k]
      have htk : (l.take k).length = k := by rw [List.length_take]; omega
      rw [Nat.zero_add, htk, ← List.take_succ_eq_append_getElem hlt, ← hL] at hsn
      have KX := K l[k] _ (F.alloc (.cells #[.int .i64 l[k].sec, .int .i64 l[k].fin] 62))
      have hb1 : L.length + 1 ≤ 140737488355328 := by have := HLL.out; omega
      have hb2 : (L.length + 1) * 8 ≤ 140737488355328 := by have := HLL.out; omega
      have HB1 := Lib.hid hb1
      have HB2 := Lib.hid hb2
      have HSN := Lib.hid hsn
      clear hb1 hb2 hLl htk hsn hL K
      generalize l[k] = x at *
      generalize hv : sgB C.l oc x = bb at *
      clear hv
      have hown2 : (wr.alloc (.cells #[.int .i64 x.sec, .int .i64 x.fin] 62)).ownsRow w.heap.size 3 1 (.slice B L.length d) L.length (L.map (Value.int .i64)) := hown.alloc _
      have F2 : Fr (fun _ => False) w (wr.alloc (.cells #[.int .i64 x.sec, .int .i64 x.fin] 62)) := (F.alloc (.cells #[.int .i64 x.sec, .int .i64 x.fin] 62))
      go_wp2_with fail
      refine KX.mono ?_
      rintro e w3 ⟨rfl, f3⟩
      have hown3 := wide_fr hown2 f3 fun _ _ => id
      have F3 := fr_nil F2 f3
      clear hown hown2 F2 f3 KX
      cases bb with
      | true =>
        have hlo := World.ownsRow.lt hown3
        have hbase : w.heap.size ≤ (w3.alloc (.cells #[.int .i64 (k : Nat)] 3)).heap.size := (F3.alloc _).size
        go_wp2_with (at_builtin; refine wpList_append_wide _ rfl (.tmp 18) (.tmp 20) 22 rfl w.heap.size 3 i0 _ 1 8 Try.underlying22 hi0 hz0 hz1 hz2 rfl (by decide) (.slice B L.length d) L.length (L.map (Value.int .i64)) rfl (hown3.alloc _) (some ⟨w3.heap.size, 0, none⟩) 1 1 [.int .i64 (k : Nat)] rfl rfl (lit_rd rfl _ _) (by simp [Value.oneCell']) (by have := HB1.out; unfold maxLen; omega) HB2.out hbase ?_; intro v6 w6 hown6 hg6 hat6; obtain ⟨A6, c6, rfl, _, _, _, _⟩ := wide_form hown6)
        have F6 := (F3.alloc (.cells #[.int .i64 (k : Nat)] 3)).grown hg6 fun j hj => .inr (hlo j hj).1
        have hown7 : w6.ownsRow w.heap.size 3 1 (.slice A6 (L ++ [((k : Nat) : Int)]).length c6) (L ++ [((k : Nat) : Int)]).length ((L ++ [((k : Nat) : Int)]).map (Value.int .i64)) := by
          rw [List.length_append, List.map_append]
          exact hown6
        have HO7 := Lib.hid hown7
        clear hg6 hat6 hlo hown6 hown7 hbase hown3 F3
        go_wp2_with fail
        go_roundw
        case rel => exact ⟨k + 1, L ++ [((k : Nat) : Int)], A6, c6, by omega, by go_num, by rw [HSN.out]; rfl, by rw [List.length_append]; rfl, HO7.out, F6⟩
        case measure => simp [intOf]; omega
      | false =>
        go_wp2_with fail
        go_roundw
        case rel => exact ⟨k + 1, L, B, d, by omega, by go_num, by rw [HSN.out]; simp, rfl, hown3, F3⟩
        case measure => simp [intOf]; omega
    · have hkl : k = l.length := by omega
      rw [hkl, List.take_length] at hL
      have HL := Lib.hid hL
      have HOW := Lib.hid hown
      have hLb : L.length ≤ 17592186044416 := by have := HLL.out; omega
      have HLB := Lib.hid hLb
      clear hL hown hkl hLl hLb
      go_wp2_with fail
      go_ret
      obtain ⟨o1, o2⟩ := own_l3 HOW.out HLB.out
      exact ⟨⟨B, L, d⟩, rfl, HL.out, o1, o2, F⟩
end Go.Proofs.Ytmohefkingnknaa.Te

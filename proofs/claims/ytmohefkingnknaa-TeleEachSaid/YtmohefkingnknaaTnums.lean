/- The contracts of Shape's closures, of controller.has, and of numbers at each of them. Written by gen/nums.py. -/
import Derived.Test.YtmohefkingnknaaTconf
import Derived.Test.YtmohefkingnknaaTtake
namespace Go.Proofs.Ytmohefkingnknaa.Te
open Go.RowKit

def inB (oc : Int) (s : Sec) : Bool := decide (s.oc = oc)
def ptB (oc : Int) (s : Sec) : Bool := decide (s.oc = oc) && decide (s.kind = 1)
def hasB (l : List Sec) (oc n : Int) : Bool := decide (0 ≤ n) && (match l[n.toNat]? with | some s => decide (s.oc = oc) | none => false)
def sgB (l : List Sec) (oc : Int) (s : Sg) : Bool := hasB l oc s.sec
theorem own_l3 {w wr : World} {A : Option Addr} {c : Nat} {L : List Int} (hown : wr.ownsRow w.heap.size 3 1 (.slice A L.length c) L.length (L.map (Value.int .i64))) (hL : L.length ≤ 17592186044416) : (L3.mk A L c).Ok wr ∧ ∀ q, blk A = some q → w.heap.size ≤ q ∧ q < wr.heap.size := by
  have hb : ∀ q, blk A = some q → (Value.slice A L.length c).ownBlock = some q := fun q hq => by rw [Row.own]; exact hq
  exact ⟨⟨wide_rd hown, hL, fun _ q hq => (World.ownsRow.lt hown q (hb q hq)).2⟩, fun q hq => World.ownsRow.lt hown q (hb q hq)⟩

theorem c1_any {w : World} {ob : Nat} {oc : Int} (h : w.cell? ⟨ob, 0, none⟩ = some (.int .i64 oc)) (s : Sec) :
    Calls Try.prog 48 #[.agg #[.int .i64 s.kind, .int .i64 s.oc, .int .i64 s.line], .pointer (some ⟨ob, 0, none⟩)] w fun e w' => e = .returned (.bool (inB oc s)) ∧ Fr (fun _ => False) w w' := by
  have f0 : Fr (fun _ => False) w (w.alloc (.cells #[.int .i64 s.kind, .int .i64 s.oc, .int .i64 s.line] 60)) := (Fr.refl _ w).alloc _
  have h' := (f0.cell (p := ⟨ob, 0, none⟩) (World.block_lt_of_cell? _ _ h) id).trans h
  unfold inB
  by_cases e : s.oc = oc
  · have e1 : (s.oc == oc) = true := by simpa using e
    rw [show decide (s.oc = oc) = true by simpa using e]
    clear e
    go_enter Try.func48, Try.ntmps48
    go_wp2
    go_ret
    exact ⟨rfl, f0⟩
  · have e1 : (s.oc == oc) = false := by simpa using e
    rw [show decide (s.oc = oc) = false by simpa using e]
    clear e
    go_enter Try.func48, Try.ntmps48
    go_wp2
    go_ret
    exact ⟨rfl, f0⟩
theorem c2_any {w : World} {ob : Nat} {oc : Int} (h : w.cell? ⟨ob, 0, none⟩ = some (.int .i64 oc)) (s : Sec) :
    Calls Try.prog 49 #[.agg #[.int .i64 s.kind, .int .i64 s.oc, .int .i64 s.line], .pointer (some ⟨ob, 0, none⟩)] w fun e w' => e = .returned (.bool (ptB oc s)) ∧ Fr (fun _ => False) w w' := by
  have f0 : Fr (fun _ => False) w (w.alloc (.cells #[.int .i64 s.kind, .int .i64 s.oc, .int .i64 s.line] 60)) := (Fr.refl _ w).alloc _
  have h' := (f0.cell (p := ⟨ob, 0, none⟩) (World.block_lt_of_cell? _ _ h) id).trans h
  unfold ptB
  by_cases e : s.oc = oc
  · have e1 : (s.oc == oc) = true := by simpa using e
    rw [show decide (s.oc = oc) = true by simpa using e]
    clear e
    by_cases k : s.kind = 1
    · have k1 : (s.kind == 1) = true := by simpa using k
      rw [show decide (s.kind = 1) = true by simpa using k]
      clear k
      go_enter Try.func49, Try.ntmps49
      go_wp2
      go_ret
      exact ⟨rfl, f0⟩
    · have k1 : (s.kind == 1) = false := by simpa using k
      rw [show decide (s.kind = 1) = false by simpa using k]
      clear k
      go_enter Try.func49, Try.ntmps49
      go_wp2
      go_ret
      exact ⟨rfl, f0⟩
  · have e1 : (s.oc == oc) = false := by simpa using e
    rw [show decide (s.oc = oc) = false by simpa using e]
    clear e
    go_enter Try.func49, Try.ntmps49
    go_wp2
    go_ret
    exact ⟨rfl, f0⟩
set_option maxHeartbeats 1000000 in
set_option maxRecDepth 100000 in
theorem nums1_any {w : World} {ob : Nat} {oc : Int} (h : w.cell? ⟨ob, 0, none⟩ = some (.int .i64 oc)) {A : Option Addr} {c : Nat} {l : List Sec} (hl : Rd w A (cellsS l)) (hll : l.length ≤ 17592186044416) :
    Calls Try.prog 47 #[.slice A l.length c, .func (.func 48) #[] #[.pointer (some ⟨ob, 0, none⟩)]] w fun e w' => ∃ x : L3, e = .returned x.val ∧ x.l = idx (inB oc) 0 l ∧ x.Ok w' ∧ (∀ q, blk x.A = some q → w.heap.size ≤ q ∧ q < w'.heap.size) ∧ Fr (fun _ => False) w w' := by
  obtain ⟨i0, hi0, hz0, hz1, hz2⟩ := info_parts Try.infoI
  have K := fun (s : Sec) (W : World) (f : Fr (fun _ => False) w W) => c1_any ((f.cell (p := ⟨ob, 0, none⟩) (World.block_lt_of_cell? _ _ h) id).trans h) s
  have HLL := Lib.hid hll
  have hl9 : (l.length : Int) ≤ 17592186044416 := by omega
  clear hll
  go_enter Try.func47, Try.ntmps47
  go_wp2_with fail
  go_loopw [5, 10] (fun v5 v10 wr => ∃ (k : Nat) (L : List Int) (B : Option Addr) (d : Nat), k ≤ l.length ∧ v10 = .int .i64 (k : Nat) ∧ L = idx (inB oc) 0 (l.take k) ∧ v5 = .slice B L.length d ∧ wr.ownsRow w.heap.size 3 1 (.slice B L.length d) L.length (L.map (Value.int .i64)) ∧ Fr (fun _ => False) w wr) (fun _ i _ => l.length - (intOf i).toNat)
  case atStart => exact ⟨0, [], none, 0, Nat.zero_le _, rfl, rfl, rfl, World.ownsRow_nil w _ _ _, Fr.refl _ _⟩
  case round =>
    obtain ⟨k, L, B, d, hk, rfl, hL, rfl, hown, F⟩ := hrel
    have hLl : L.length ≤ k := by
      rw [hL]
      exact Nat.le_trans (idx_le _ _ _) (by rw [List.length_take]; omega)
    by_cases hlt : k < l.length
    · obtain ⟨g, o, rfl, _, q0, q1, q2⟩ := rd_sec (hl.fr F fun _ _ => id) hlt
      have hsn := idx_snoc (inB oc) (l.take k) 0 l[k]
      have htk : (l.take k).length = k := by rw [List.length_take]; omega
      rw [Nat.zero_add, htk, ← List.take_succ_eq_append_getElem hlt, ← hL] at hsn
      have KX := K l[k] _ (F.alloc (.cells #[.int .i64 l[k].kind, .int .i64 l[k].oc, .int .i64 l[k].line] 60))
      have hb1 : L.length + 1 ≤ 140737488355328 := by have := HLL.out; omega
      have hb2 : (L.length + 1) * 8 ≤ 140737488355328 := by have := HLL.out; omega
      have HB1 := Lib.hid hb1
      have HB2 := Lib.hid hb2
      have HSN := Lib.hid hsn
      clear hb1 hb2 hLl htk hsn hL K
      generalize l[k] = x at *
      generalize hv : inB oc x = bb at *
      clear hv
      have hown2 : (wr.alloc (.cells #[.int .i64 x.kind, .int .i64 x.oc, .int .i64 x.line] 60)).ownsRow w.heap.size 3 1 (.slice B L.length d) L.length (L.map (Value.int .i64)) := hown.alloc _
      have F2 : Fr (fun _ => False) w (wr.alloc (.cells #[.int .i64 x.kind, .int .i64 x.oc, .int .i64 x.line] 60)) := (F.alloc (.cells #[.int .i64 x.kind, .int .i64 x.oc, .int .i64 x.line] 60))
      go_wp2_with fail
      refine KX.mono ?_
      rintro e w3 ⟨rfl, f3⟩
      have hown3 := wide_fr hown2 f3 fun _ _ => id
      have F3 := fr_nil F2 f3
      clear hown hown2 F2 f3 KX
      cases bb with
      | true =>
        have hlo := World.ownsRow.lt hown3
        have hbase : w.heap.size ≤ (w3.alloc (.cells #[.int .i64 (k : Nat)] 3)).heap.size := (F3.alloc _).size
        go_wp2_with (at_builtin; refine wpList_append_wide _ rfl (.tmp 18) (.tmp 20) 22 rfl w.heap.size 3 i0 _ 1 8 Try.underlying22 hi0 hz0 hz1 hz2 rfl (by decide) (.slice B L.length d) L.length (L.map (Value.int .i64)) rfl (hown3.alloc _) (some ⟨w3.heap.size, 0, none⟩) 1 1 [.int .i64 (k : Nat)] rfl rfl (lit_rd rfl _ _) (by simp [Value.oneCell']) (by have := HB1.out; unfold maxLen; omega) HB2.out hbase ?_; intro v6 w6 hown6 hg6 hat6; obtain ⟨A6, c6, rfl, _, _, _, _⟩ := wide_form hown6)
        have F6 := (F3.alloc (.cells #[.int .i64 (k : Nat)] 3)).grown hg6 fun j hj => .inr (hlo j hj).1
        have hown7 : w6.ownsRow w.heap.size 3 1 (.slice A6 (L ++ [((k : Nat) : Int)]).length c6) (L ++ [((k : Nat) : Int)]).length ((L ++ [((k : Nat) : Int)]).map (Value.int .i64)) := by
          rw [List.length_append, List.map_append]
          exact hown6
        have HO7 := Lib.hid hown7
        clear hg6 hat6 hlo hown6 hown7 hbase hown3 F3
        go_wp2_with fail
        go_roundw
        case rel => exact ⟨k + 1, L ++ [((k : Nat) : Int)], A6, c6, by omega, by go_num, by rw [HSN.out]; rfl, by rw [List.length_append]; rfl, HO7.out, F6⟩
        case measure => simp [intOf]; omega
      | false =>
        go_wp2_with fail
        go_roundw
        case rel => exact ⟨k + 1, L, B, d, by omega, by go_num, by rw [HSN.out]; simp, rfl, hown3, F3⟩
        case measure => simp [intOf]; omega
    · have hkl : k = l.length := by omega
      rw [hkl, List.take_length] at hL
      have HL := Lib.hid hL
      have HOW := Lib.hid hown
      have hLb : L.length ≤ 17592186044416 := by have := HLL.out; omega
      have HLB := Lib.hid hLb
      clear hL hown hkl hLl hLb
      go_wp2_with fail
      go_ret
      obtain ⟨o1, o2⟩ := own_l3 HOW.out HLB.out
      exact ⟨⟨B, L, d⟩, rfl, HL.out, o1, o2, F⟩
set_option maxHeartbeats 1000000 in
set_option maxRecDepth 100000 in
theorem nums2_any {w : World} {ob : Nat} {oc : Int} (h : w.cell? ⟨ob, 0, none⟩ = some (.int .i64 oc)) {A : Option Addr} {c : Nat} {l : List Sec} (hl : Rd w A (cellsS l)) (hll : l.length ≤ 17592186044416) :
    Calls Try.prog 47 #[.slice A l.length c, .func (.func 49) #[] #[.pointer (some ⟨ob, 0, none⟩)]] w fun e w' => ∃ x : L3, e = .returned x.val ∧ x.l = idx (ptB oc) 0 l ∧ x.Ok w' ∧ (∀ q, blk x.A = some q → w.heap.size ≤ q ∧ q < w'.heap.size) ∧ Fr (fun _ => False) w w' := by
  obtain ⟨i0, hi0, hz0, hz1, hz2⟩ := info_parts Try.infoI
  have K := fun (s : Sec) (W : World) (f : Fr (fun _ => False) w W) => c2_any ((f.cell (p := ⟨ob, 0, none⟩) (World.block_lt_of_cell? _ _ h) id).trans h) s
  have HLL := Lib.hid hll
  have hl9 : (l.length : Int) ≤ 17592186044416 := by omega
  clear hll
  go_enter Try.func47, Try.ntmps47
  go_wp2_with fail
  go_loopw [5, 10] (fun v5 v10 wr => ∃ (k : Nat) (L : List Int) (B : Option Addr) (d : Nat), k ≤ l.length ∧ v10 = .int .i64 (k : Nat) ∧ L = idx (ptB oc) 0 (l.take k) ∧ v5 = .slice B L.length d ∧ wr.ownsRow w.heap.size 3 1 (.slice B L.length d) L.length (L.map (Value.int .i64)) ∧ Fr (fun _ => False) w wr) (fun _ i _ => l.length - (intOf i).toNat)
  case atStart => exact ⟨0, [], none, 0, Nat.zero_le _, rfl, rfl, rfl, World.ownsRow_nil w _ _ _, Fr.refl _ _⟩
  case round =>
    obtain ⟨k, L, B, d, hk, rfl, hL, rfl, hown, F⟩ := hrel
    have hLl : L.length ≤ k := by
      rw [hL]
      exact Nat.le_trans (idx_le _ _ _) (by rw [List.length_take]; omega)
    by_cases hlt : k < l.length
    · obtain ⟨g, o, rfl, _, q0, q1, q2⟩ := rd_sec (hl.fr F fun _ _ => id) hlt
      have hsn := idx_snoc (ptB oc) (l.take k) 0 l[k]
      have htk : (l.take k).length = k := by rw [List.length_take]; omega
      rw [Nat.zero_add, htk, ← List.take_succ_eq_append_getElem hlt, ← hL] at hsn
      have KX := K l[k] _ (F.alloc (.cells #[.int .i64 l[k].kind, .int .i64 l[k].oc, .int .i64 l[k].line] 60))
      have hb1 : L.length + 1 ≤ 140737488355328 := by have := HLL.out; omega
      have hb2 : (L.length + 1) * 8 ≤ 140737488355328 := by have := HLL.out; omega
      have HB1 := Lib.hid hb1
      have HB2 := Lib.hid hb2
      have HSN := Lib.hid hsn
      clear hb1 hb2 hLl htk hsn hL K
      generalize l[k] = x at *
      generalize hv : ptB oc x = bb at *
      clear hv
      have hown2 : (wr.alloc (.cells #[.int .i64 x.kind, .int .i64 x.oc, .int .i64 x.line] 60)).ownsRow w.heap.size 3 1 (.slice B L.length d) L.length (L.map (Value.int .i64)) := hown.alloc _
      have F2 : Fr (fun _ => False) w (wr.alloc (.cells #[.int .i64 x.kind, .int .i64 x.oc, .int .i64 x.line] 60)) := (F.alloc (.cells #[.int .i64 x.kind, .int .i64 x.oc, .int .i64 x.line] 60))
      go_wp2_with fail
      refine KX.mono ?_
      rintro e w3 ⟨rfl, f3⟩
      have hown3 := wide_fr hown2 f3 fun _ _ => id
      have F3 := fr_nil F2 f3
      clear hown hown2 F2 f3 KX
      cases bb with
      | true =>
        have hlo := World.ownsRow.lt hown3
        have hbase : w.heap.size ≤ (w3.alloc (.cells #[.int .i64 (k : Nat)] 3)).heap.size := (F3.alloc _).size
        go_wp2_with (at_builtin; refine wpList_append_wide _ rfl (.tmp 18) (.tmp 20) 22 rfl w.heap.size 3 i0 _ 1 8 Try.underlying22 hi0 hz0 hz1 hz2 rfl (by decide) (.slice B L.length d) L.length (L.map (Value.int .i64)) rfl (hown3.alloc _) (some ⟨w3.heap.size, 0, none⟩) 1 1 [.int .i64 (k : Nat)] rfl rfl (lit_rd rfl _ _) (by simp [Value.oneCell']) (by have := HB1.out; unfold maxLen; omega) HB2.out hbase ?_; intro v6 w6 hown6 hg6 hat6; obtain ⟨A6, c6, rfl, _, _, _, _⟩ := wide_form hown6)
        have F6 := (F3.alloc (.cells #[.int .i64 (k : Nat)] 3)).grown hg6 fun j hj => .inr (hlo j hj).1
        have hown7 : w6.ownsRow w.heap.size 3 1 (.slice A6 (L ++ [((k : Nat) : Int)]).length c6) (L ++ [((k : Nat) : Int)]).length ((L ++ [((k : Nat) : Int)]).map (Value.int .i64)) := by
          rw [List.length_append, List.map_append]
          exact hown6
        have HO7 := Lib.hid hown7
        clear hg6 hat6 hlo hown6 hown7 hbase hown3 F3
        go_wp2_with fail
        go_roundw
        case rel => exact ⟨k + 1, L ++ [((k : Nat) : Int)], A6, c6, by omega, by go_num, by rw [HSN.out]; rfl, by rw [List.length_append]; rfl, HO7.out, F6⟩
        case measure => simp [intOf]; omega
      | false =>
        go_wp2_with fail
        go_roundw
        case rel => exact ⟨k + 1, L, B, d, by omega, by go_num, by rw [HSN.out]; simp, rfl, hown3, F3⟩
        case measure => simp [intOf]; omega
    · have hkl : k = l.length := by omega
      rw [hkl, List.take_length] at hL
      have HL := Lib.hid hL
      have HOW := Lib.hid hown
      have hLb : L.length ≤ 17592186044416 := by have := HLL.out; omega
      have HLB := Lib.hid hLb
      clear hL hown hkl hLl hLb
      go_wp2_with fail
      go_ret
      obtain ⟨o1, o2⟩ := own_l3 HOW.out HLB.out
      exact ⟨⟨B, L, d⟩, rfl, HL.out, o1, o2, F⟩
end Go.Proofs.Ytmohefkingnknaa.Te

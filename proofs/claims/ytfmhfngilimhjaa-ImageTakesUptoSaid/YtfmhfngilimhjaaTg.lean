/- Contracts and plain mathematics of earlier stages: Tnumsw, Tshapew, Twr4, Tsameh. -/
import Derived.Test.YtfmhfngilimhjaaTf
import Derived.Test.YtfmhfngilimhjaaTb
namespace Go.Proofs.Ytfmhfngilimhjaa.Te
open Go.RowKit

/-- a list that may be written -/
structure L3.OkW (w : World) (x : L3) : Prop where
  ok : x.Ok w
  wr : ∀ q, blk x.A = some q → x.A = some ⟨q, 0, none⟩ ∧ ∃ cur, Is w q 3 cur ∧ x.l.length ≤ cur.size
theorem L3.OkW.fr {w w1 : World} {x : L3} {S : Nat → Prop} (h : x.OkW w) (f : Fr S w w1) (hn : ∀ k, blk x.A = some k → ¬ S k) : x.OkW w1 :=
  ⟨h.ok.fr f hn, fun q hq => by
    obtain ⟨e, cur, i, l⟩ := h.wr q hq
    exact ⟨e, cur, i.fr f (hn q hq), l⟩⟩
structure Sta.OkW (w : World) (x : Sta) : Prop where
  occ : x.occ.OkW w
  pos : x.pos.OkW w
  shut : x.shut.OkW w
  lamp : x.lamp.OkW w
theorem Sta.OkW.ok {w : World} {x : Sta} (h : x.OkW w) : x.Ok w := ⟨h.occ.ok, h.pos.ok, h.shut.ok, h.lamp.ok⟩
theorem own_l3w {w wr : World} {A : Option Addr} {c : Nat} {L : List Int} (hown : wr.ownsRow w.heap.size 3 1 (.slice A L.length c) L.length (L.map (Value.int .i64))) (hL : L.length ≤ 17592186044416) : (L3.mk A L c).OkW wr ∧ ∀ q, blk A = some q → w.heap.size ≤ q ∧ q < wr.heap.size := by
  obtain ⟨h1, h2⟩ := own_l3 hown hL
  refine ⟨⟨h1, fun q hq => ?_⟩, h2⟩
  have hx := hown
  rcases hx.2 with ⟨hv, _⟩ | ⟨g, cap, cur, hv, _, hg, hnc, _⟩
  · injection hv with hA
    subst hA
    cases hq
  · have hA : A = some ⟨g, 0, none⟩ := by injection hv
    have hgq : g = q := by
      have hq' : blk A = some q := hq
      rw [hA] at hq'
      simpa [blk] using hq'
    subst hgq
    refine ⟨hA, cur, hg, ?_⟩
    have hc := World.ownsRow.cells hown (g := g) (by rw [Row.own, hA]; rfl)
    show L.length ≤ cur.size
    rcases Nat.eq_zero_or_pos L.length with h0 | h0
    · omega
    · have k := hc (L.length - 1) (.int .i64 L[L.length - 1]) (by rw [List.getElem?_map, List.getElem?_eq_getElem (by omega)]; rfl)
      have e : (⟨g, 0, none⟩ : Addr).add (L.length - 1) = ⟨g, 0 + (L.length - 1), none⟩ := by unfold Addr.add; split <;> simp_all
      rw [e, Is.cell (cs := cur) (t := 3) hg] at k
      have := (Array.getElem?_eq_some_iff.1 k).1
      omega
set_option maxHeartbeats 1000000 in
set_option maxRecDepth 100000 in
theorem nums1w {w : World} {ob : Nat} {oc : Int} (h : w.cell? ⟨ob, 0, none⟩ = some (.int .i64 oc)) {A : Option Addr} {c : Nat} {l : List Sec} (hl : Rd w A (cellsS l)) (hll : l.length ≤ 17592186044416) :
    Calls Try.prog 31 #[.slice A l.length c, .func (.func 32) #[] #[.pointer (some ⟨ob, 0, none⟩)]] w fun e w' => ∃ x : L3, e = .returned x.val ∧ x.l = idx (inB oc) 0 l ∧ x.OkW w' ∧ (∀ q, blk x.A = some q → w.heap.size ≤ q ∧ q < w'.heap.size) ∧ Fr (fun _ => False) w w' := by
  obtain ⟨i0, hi0, hz0, hz1, hz2⟩ := info_parts Try.infoI
  have K := fun (s : Sec) (W : World) (f : Fr (fun _ => False) w W) => c1_any ((f.cell (p := ⟨ob, 0, none⟩) (World.block_lt_of_cell? _ _ h) id).trans h) s
  have HLL := Lib.hid hll
  have hl9 : (l.length : Int) ≤ 17592186044416 := by omega
  clear hll
  go_enter Try.func31, Try.ntmps31
  go_wp2_with fail
  go_loopw [5, 10] (fun v5 v10 wr => ∃ (k : Nat) (L : List Int) (B : Option Addr) (d : Nat), k ≤ l.length ∧ v10 = .int .i64 (k : Nat) ∧ L = idx (inB oc) 0 (l.take k) ∧ v5 = .slice B L.length d ∧ wr.ownsRow w.heap.size 3 1 (.slice B L.length d) L.length (L.map (Value.int .i64)) ∧ Fr (fun _ => False) w wr) (fun _ i _ => l.length - (intOf i).toNat)
  case atStart => exact ⟨0, [], none, 0, Nat.zero_le _, rfl, rfl, rfl, World.ownsRow_nil w _ _ _, Fr.refl _ _⟩
  case round =>
    obtain ⟨k, L, B, d, hk, rfl, hL, rfl, hown, F⟩ := hrel
    have hLl : L.length ≤ k := by
      rw [hL]
      exact Nat.le_trans (idx_le _ _ _) (by rw [List.length_take]; omega)
    by_cases hlt : k < l.length
    · obtain ⟨g, o, rfl, _, q0, q1, q2⟩ := rd_sec (hl.fr F fun _ _ => id) hlt
      have hsn := idx_snoc (inB oc) (l.take k) 0 l[k]
      have htk : (l.take k).length = k := by rw [List.length_take]; omega
      rw [Nat.zero_add, htk, ← List.take_succ_eq_append_getElem hlt, ← hL] at hsn
      have KX := K l[k] _ (F.alloc (.cells #[.int .i64 l[k].kind, .int .i64 l[k].oc, .int .i64 l[k].line] 38))
      have hb1 : L.length + 1 ≤ 140737488355328 := by have := HLL.out; omega
      have hb2 : (L.length + 1) * 8 ≤ 140737488355328 := by have := HLL.out; omega
      have HB1 := Lib.hid hb1
      have HB2 := Lib.hid hb2
      have HSN := Lib.hid hsn
      clear hb1 hb2 hLl htk hsn hL K
      generalize l[k] = x at *
      generalize hv : inB oc x = bb at *
      clear hv
      have hown2 : (wr.alloc (.cells #[.int .i64 x.kind, .int .i64 x.oc, .int .i64 x.line] 38)).ownsRow w.heap.size 3 1 (.slice B L.length d) L.length (L.map (Value.int .i64)) := hown.alloc _
      have F2 : Fr (fun _ => False) w (wr.alloc (.cells #[.int .i64 x.kind, .int .i64 x.oc, .int .i64 x.line] 38)) := (F.alloc (.cells #[.int .i64 x.kind, .int .i64 x.oc, .int .i64 x.line] 38))
      go_wp2_with fail
      refine KX.mono ?_
      rintro e w3 ⟨rfl, f3⟩
      have hown3 := wide_fr hown2 f3 fun _ _ => id
      have F3 := fr_nil F2 f3
      clear hown hown2 F2 f3 KX
      cases bb with
      | true =>
        have hlo := World.ownsRow.lt hown3
        have hbase : w.heap.size ≤ (w3.alloc (.cells #[.int .i64 (k : Nat)] 3)).heap.size := (F3.alloc _).size
        go_wp2_with (at_builtin; refine wpList_append_wide _ rfl (.tmp 18) (.tmp 20) 25 rfl w.heap.size 3 i0 _ 1 8 Try.underlying25 hi0 hz0 hz1 hz2 rfl (by decide) (.slice B L.length d) L.length (L.map (Value.int .i64)) rfl (hown3.alloc _) (some ⟨w3.heap.size, 0, none⟩) 1 1 [.int .i64 (k : Nat)] rfl rfl (lit_rd rfl _ _) (by simp [Value.oneCell']) (by have := HB1.out; unfold maxLen; omega) HB2.out hbase ?_; intro v6 w6 hown6 hg6 hat6; obtain ⟨A6, c6, rfl, _, _, _, _⟩ := wide_form hown6)
        have F6 := (F3.alloc (.cells #[.int .i64 (k : Nat)] 3)).grown hg6 fun j hj => .inr (hlo j hj).1
        have hown7 : w6.ownsRow w.heap.size 3 1 (.slice A6 (L ++ [((k : Nat) : Int)]).length c6) (L ++ [((k : Nat) : Int)]).length ((L ++ [((k : Nat) : Int)]).map (Value.int .i64)) := by
          rw [List.length_append, List.map_append]
          exact hown6
        have HO7 := Lib.hid hown7
        clear hg6 hat6 hlo hown6 hown7 hbase hown3 F3
        go_wp2_with fail
        go_roundw
        case rel => exact ⟨k + 1, L ++ [((k : Nat) : Int)], A6, c6, by omega, by go_num, by rw [HSN.out]; rfl, by rw [List.length_append]; rfl, HO7.out, F6⟩
        case measure => simp [intOf]; omega
      | false =>
        go_wp2_with fail
        go_roundw
        case rel => exact ⟨k + 1, L, B, d, by omega, by go_num, by rw [HSN.out]; simp, rfl, hown3, F3⟩
        case measure => simp [intOf]; omega
    · have hkl : k = l.length := by omega
      rw [hkl, List.take_length] at hL
      have HL := Lib.hid hL
      have HOW := Lib.hid hown
      have hLb : L.length ≤ 17592186044416 := by have := HLL.out; omega
      have HLB := Lib.hid hLb
      clear hL hown hkl hLl hLb
      go_wp2_with fail
      go_ret
      obtain ⟨o1, o2⟩ := own_l3w HOW.out HLB.out
      exact ⟨⟨B, L, d⟩, rfl, HL.out, o1, o2, F⟩
set_option maxHeartbeats 1000000 in
set_option maxRecDepth 100000 in
theorem nums2w {w : World} {ob : Nat} {oc : Int} (h : w.cell? ⟨ob, 0, none⟩ = some (.int .i64 oc)) {A : Option Addr} {c : Nat} {l : List Sec} (hl : Rd w A (cellsS l)) (hll : l.length ≤ 17592186044416) :
    Calls Try.prog 31 #[.slice A l.length c, .func (.func 33) #[] #[.pointer (some ⟨ob, 0, none⟩)]] w fun e w' => ∃ x : L3, e = .returned x.val ∧ x.l = idx (ptB oc) 0 l ∧ x.OkW w' ∧ (∀ q, blk x.A = some q → w.heap.size ≤ q ∧ q < w'.heap.size) ∧ Fr (fun _ => False) w w' := by
  obtain ⟨i0, hi0, hz0, hz1, hz2⟩ := info_parts Try.infoI
  have K := fun (s : Sec) (W : World) (f : Fr (fun _ => False) w W) => c2_any ((f.cell (p := ⟨ob, 0, none⟩) (World.block_lt_of_cell? _ _ h) id).trans h) s
  have HLL := Lib.hid hll
  have hl9 : (l.length : Int) ≤ 17592186044416 := by omega
  clear hll
  go_enter Try.func31, Try.ntmps31
  go_wp2_with fail
  go_loopw [5, 10] (fun v5 v10 wr => ∃ (k : Nat) (L : List Int) (B : Option Addr) (d : Nat), k ≤ l.length ∧ v10 = .int .i64 (k : Nat) ∧ L = idx (ptB oc) 0 (l.take k) ∧ v5 = .slice B L.length d ∧ wr.ownsRow w.heap.size 3 1 (.slice B L.length d) L.length (L.map (Value.int .i64)) ∧ Fr (fun _ => False) w wr) (fun _ i _ => l.length - (intOf i).toNat)
  case atStart => exact ⟨0, [], none, 0, Nat.zero_le _, rfl, rfl, rfl, World.ownsRow_nil w _ _ _, Fr.refl _ _⟩
  case round =>
    obtain ⟨k, L, B, d, hk, rfl, hL, rfl, hown, F⟩ := hrel
    have hLl : L.length ≤ k := by
      rw [hL]
      exact Nat.le_trans (idx_le _ _ _) (by rw [List.length_take]; omega)
    by_cases hlt : k < l.length
    · obtain ⟨g, o, rfl, _, q0, q1, q2⟩ := rd_sec (hl.fr F fun _ _ => id) hlt
      have hsn := idx_snoc (ptB oc) (l.take k) 0 l[k]
      have htk : (l.take k).length = k := by rw [List.length_take]; omega
      rw [Nat.zero_add, htk, ← List.take_succ_eq_append_getElem hlt, ← hL] at hsn
      have KX := K l[k] _ (F.alloc (.cells #[.int .i64 l[k].kind, .int .i64 l[k].oc, .int .i64 l[k].line] 38))
      have hb1 : L.length + 1 ≤ 140737488355328 := by have := HLL.out; omega
      have hb2 : (L.length + 1) * 8 ≤ 140737488355328 := by have := HLL.out; omega
      have HB1 := Lib.hid hb1
      have HB2 := Lib.hid hb2
      have HSN := Lib.hid hsn
      clear hb1 hb2 hLl htk hsn hL K
      generalize l[k] = x at *
      generalize hv : ptB oc x = bb at *
      clear hv
      have hown2 : (wr.alloc (.cells #[.int .i64 x.kind, .int .i64 x.oc, .int .i64 x.line] 38)).ownsRow w.heap.size 3 1 (.slice B L.length d) L.length (L.map (Value.int .i64)) := hown.alloc _
      have F2 : Fr (fun _ => False) w (wr.alloc (.cells #[.int .i64 x.kind, .int .i64 x.oc, .int .i64 x.line] 38)) := (F.alloc (.cells #[.int .i64 x.kind, .int .i64 x.oc, .int .i64 x.line] 38))
      go_wp2_with fail
      refine KX.mono ?_
      rintro e w3 ⟨rfl, f3⟩
      have hown3 := wide_fr hown2 f3 fun _ _ => id
      have F3 := fr_nil F2 f3
      clear hown hown2 F2 f3 KX
      cases bb with
      | true =>
        have hlo := World.ownsRow.lt hown3
        have hbase : w.heap.size ≤ (w3.alloc (.cells #[.int .i64 (k : Nat)] 3)).heap.size := (F3.alloc _).size
        go_wp2_with (at_builtin; refine wpList_append_wide _ rfl (.tmp 18) (.tmp 20) 25 rfl w.heap.size 3 i0 _ 1 8 Try.underlying25 hi0 hz0 hz1 hz2 rfl (by decide) (.slice B L.length d) L.length (L.map (Value.int .i64)) rfl (hown3.alloc _) (some ⟨w3.heap.size, 0, none⟩) 1 1 [.int .i64 (k : Nat)] rfl rfl (lit_rd rfl _ _) (by simp [Value.oneCell']) (by have := HB1.out; unfold maxLen; omega) HB2.out hbase ?_; intro v6 w6 hown6 hg6 hat6; obtain ⟨A6, c6, rfl, _, _, _, _⟩ := wide_form hown6)
        have F6 := (F3.alloc (.cells #[.int .i64 (k : Nat)] 3)).grown hg6 fun j hj => .inr (hlo j hj).1
        have hown7 : w6.ownsRow w.heap.size 3 1 (.slice A6 (L ++ [((k : Nat) : Int)]).length c6) (L ++ [((k : Nat) : Int)]).length ((L ++ [((k : Nat) : Int)]).map (Value.int .i64)) := by
          rw [List.length_append, List.map_append]
          exact hown6
        have HO7 := Lib.hid hown7
        clear hg6 hat6 hlo hown6 hown7 hbase hown3 F3
        go_wp2_with fail
        go_roundw
        case rel => exact ⟨k + 1, L ++ [((k : Nat) : Int)], A6, c6, by omega, by go_num, by rw [HSN.out]; rfl, by rw [List.length_append]; rfl, HO7.out, F6⟩
        case measure => simp [intOf]; omega
      | false =>
        go_wp2_with fail
        go_roundw
        case rel => exact ⟨k + 1, L, B, d, by omega, by go_num, by rw [HSN.out]; simp, rfl, hown3, F3⟩
        case measure => simp [intOf]; omega
    · have hkl : k = l.length := by omega
      rw [hkl, List.take_length] at hL
      have HL := Lib.hid hL
      have HOW := Lib.hid hown
      have hLb : L.length ≤ 17592186044416 := by have := HLL.out; omega
      have HLB := Lib.hid hLb
      clear hL hown hkl hLl hLb
      go_wp2_with fail
      go_ret
      obtain ⟨o1, o2⟩ := own_l3w HOW.out HLB.out
      exact ⟨⟨B, L, d⟩, rfl, HL.out, o1, o2, F⟩
set_option maxHeartbeats 1000000 in
set_option maxRecDepth 100000 in
theorem nums3w {w : World} {C : Cf} (hC : Rd w C.A1 (cellsS C.l)) (hCl : C.l.length ≤ 17592186044416) (oc : Int) {A : Option Addr} {c : Nat} {l : List Int} (hl : Rd w A (l.map (Value.int .i64))) (hll : l.length ≤ 17592186044416) :
    Calls Try.prog 34 #[.slice A l.length c, .func (.func 35) #[.agg (C.ctl oc).toArray] #[]] w fun e w' => ∃ x : L3, e = .returned x.val ∧ x.l = idx (hasB C.l oc) 0 l ∧ x.OkW w' ∧ (∀ q, blk x.A = some q → w.heap.size ≤ q ∧ q < w'.heap.size) ∧ Fr (fun _ => False) w w' := by
  obtain ⟨i0, hi0, hz0, hz1, hz2⟩ := info_parts Try.infoI
  have K := fun (x : Int) (W : World) (f : Fr (fun _ => False) w W) => has_any (hC.fr f fun _ _ => id) hCl oc x
  have HLL := Lib.hid hll
  have hl9 : (l.length : Int) ≤ 17592186044416 := by omega
  clear hll
  go_enter Try.func34, Try.ntmps34
  go_wp2_with fail
  go_loopw [5, 10] (fun v5 v10 wr => ∃ (k : Nat) (L : List Int) (B : Option Addr) (d : Nat), k ≤ l.length ∧ v10 = .int .i64 (k : Nat) ∧ L = idx (hasB C.l oc) 0 (l.take k) ∧ v5 = .slice B L.length d ∧ wr.ownsRow w.heap.size 3 1 (.slice B L.length d) L.length (L.map (Value.int .i64)) ∧ Fr (fun _ => False) w wr) (fun _ i _ => l.length - (intOf i).toNat)
  case atStart => exact ⟨0, [], none, 0, Nat.zero_le _, rfl, rfl, rfl, World.ownsRow_nil w _ _ _, Fr.refl _ _⟩
  case round =>
    obtain ⟨k, L, B, d, hk, rfl, hL, rfl, hown, F⟩ := hrel
    have hLl : L.length ≤ k := by
      rw [hL]
      exact Nat.le_trans (idx_le _ _ _) (by rw [List.length_take]; omega)
    by_cases hlt : k < l.length
    · obtain ⟨g, o, rfl, _, q0⟩ := rd_int (hl.fr F fun _ _ => id) hlt
      have hsn := idx_snoc (hasB C.l oc) (l.take k) 0 l[k]
      have htk : (l.take k).length = k := by rw [List.length_take]; omega
      rw [Nat.zero_add, htk, ← List.take_succ_eq_append_getElem hlt, ← hL] at hsn
      have KX := K l[k] _ F
      have hb1 : L.length + 1 ≤ 140737488355328 := by have := HLL.out; omega
      have hb2 : (L.length + 1) * 8 ≤ 140737488355328 := by have := HLL.out; omega
      have HB1 := Lib.hid hb1
      have HB2 := Lib.hid hb2
      have HSN := Lib.hid hsn
      clear hb1 hb2 hLl htk hsn hL K
      generalize l[k] = x at *
      generalize hv : hasB C.l oc x = bb at *
      clear hv
      have hown2 : wr.ownsRow w.heap.size 3 1 (.slice B L.length d) L.length (L.map (Value.int .i64)) := hown
      have F2 : Fr (fun _ => False) w wr := F
      go_wp2_with fail
      refine KX.mono ?_
      rintro e w3 ⟨rfl, f3⟩
      have hown3 := wide_fr hown2 f3 fun _ _ => id
      have F3 := fr_nil F2 f3
      clear hown hown2 F2 f3 KX
      cases bb with
      | true =>
        have hlo := World.ownsRow.lt hown3
        have hbase : w.heap.size ≤ (w3.alloc (.cells #[.int .i64 (k : Nat)] 3)).heap.size := (F3.alloc _).size
        go_wp2_with (at_builtin; refine wpList_append_wide _ rfl (.tmp 18) (.tmp 20) 25 rfl w.heap.size 3 i0 _ 1 8 Try.underlying25 hi0 hz0 hz1 hz2 rfl (by decide) (.slice B L.length d) L.length (L.map (Value.int .i64)) rfl (hown3.alloc _) (some ⟨w3.heap.size, 0, none⟩) 1 1 [.int .i64 (k : Nat)] rfl rfl (lit_rd rfl _ _) (by simp [Value.oneCell']) (by have := HB1.out; unfold maxLen; omega) HB2.out hbase ?_; intro v6 w6 hown6 hg6 hat6; obtain ⟨A6, c6, rfl, _, _, _, _⟩ := wide_form hown6)
        have F6 := (F3.alloc (.cells #[.int .i64 (k : Nat)] 3)).grown hg6 fun j hj => .inr (hlo j hj).1
        have hown7 : w6.ownsRow w.heap.size 3 1 (.slice A6 (L ++ [((k : Nat) : Int)]).length c6) (L ++ [((k : Nat) : Int)]).length ((L ++ [((k : Nat) : Int)]).map (Value.int .i64)) := by
          rw [List.length_append, List.map_append]
          exact hown6
        have HO7 := Lib.hid hown7
        clear hg6 hat6 hlo hown6 hown7 hbase hown3 F3
        go_wp2_with fail
        go_roundw
        case rel => exact ⟨k + 1, L ++ [((k : Nat) : Int)], A6, c6, by omega, by go_num, by rw [HSN.out]; rfl, by rw [List.length_append]; rfl, HO7.out, F6⟩
        case measure => simp [intOf]; omega
      | false =>
        go_wp2_with fail
        go_roundw
        case rel => exact ⟨k + 1, L, B, d, by omega, by go_num, by rw [HSN.out]; simp, rfl, hown3, F3⟩
        case measure => simp [intOf]; omega
    · have hkl : k = l.length := by omega
      rw [hkl, List.take_length] at hL
      have HL := Lib.hid hL
      have HOW := Lib.hid hown
      have hLb : L.length ≤ 17592186044416 := by have := HLL.out; omega
      have HLB := Lib.hid hLb
      clear hL hown hkl hLl hLb
      go_wp2_with fail
      go_ret
      obtain ⟨o1, o2⟩ := own_l3w HOW.out HLB.out
      exact ⟨⟨B, L, d⟩, rfl, HL.out, o1, o2, F⟩
set_option maxHeartbeats 1000000 in
set_option maxRecDepth 100000 in
theorem nums4w {w : World} {C : Cf} {cb : Nat} {oc : Int} (hb : Is w cb 78 (C.ctl oc).toArray) (hC : Rd w C.A1 (cellsS C.l)) (hCl : C.l.length ≤ 17592186044416) {A : Option Addr} {c : Nat} {l : List Sg} (hl : Rd w A (cellsG l)) (hll : l.length ≤ 17592186044416) :
    Calls Try.prog 36 #[.slice A l.length c, .func (.func 37) #[] #[.pointer (some ⟨cb, 0, none⟩)]] w fun e w' => ∃ x : L3, e = .returned x.val ∧ x.l = idx (sgB C.l oc) 0 l ∧ x.OkW w' ∧ (∀ q, blk x.A = some q → w.heap.size ≤ q ∧ q < w'.heap.size) ∧ Fr (fun _ => False) w w' := by
  obtain ⟨i0, hi0, hz0, hz1, hz2⟩ := info_parts Try.infoI
  have K := fun (x : Sg) (W : World) (f : Fr (fun _ => False) w W) => c3_any (hb.fr f id) (hC.fr f fun _ _ => id) hCl x
  have HLL := Lib.hid hll
  have hl9 : (l.length : Int) ≤ 17592186044416 := by omega
  clear hll
  go_enter Try.func36, Try.ntmps36
  go_wp2_with fail
  go_loopw [5, 10] (fun v5 v10 wr => ∃ (k : Nat) (L : List Int) (B : Option Addr) (d : Nat), k ≤ l.length ∧ v10 = .int .i64 (k : Nat) ∧ L = idx (sgB C.l oc) 0 (l.take k) ∧ v5 = .slice B L.length d ∧ wr.ownsRow w.heap.size 3 1 (.slice B L.length d) L.length (L.map (Value.int .i64)) ∧ Fr (fun _ => False) w wr) (fun _ i _ => l.length - (intOf i).toNat)
  case atStart => exact ⟨0, [], none, 0, Nat.zero_le _, rfl, rfl, rfl, World.ownsRow_nil w _ _ _, Fr.refl _ _⟩
  case round =>
    obtain ⟨k, L, B, d, hk, rfl, hL, rfl, hown, F⟩ := hrel
    have hLl : L.length ≤ k := by
      rw [hL]
      exact Nat.le_trans (idx_le _ _ _) (by rw [List.length_take]; omega)
    by_cases hlt : k < l.length
    · obtain ⟨g, o, rfl, _, q0, q1⟩ := rd_sg (hl.fr F fun _ _ => id) hlt
      have hsn := idx_snoc (sgB C.l oc) (l.take k) 0 l[k]
      have htk : (l.take k).length = k := by rw [List.length_take]; omega
      rw [Nat.zero_add, htk, ← List.take_succ_eq_append_getElem hlt, ← hL] at hsn
      have KX := K l[k] _ (F.alloc (.cells #[.int .i64 l[k].sec, .int .i64 l[k].fin] 40))
      have hb1 : L.length + 1 ≤ 140737488355328 := by have := HLL.out; omega
      have hb2 : (L.length + 1) * 8 ≤ 140737488355328 := by have := HLL.out; omega
      have HB1 := Lib.hid hb1
      have HB2 := Lib.hid hb2
      have HSN := Lib.hid hsn
      clear hb1 hb2 hLl htk hsn hL K
      generalize l[k] = x at *
      generalize hv : sgB C.l oc x = bb at *
      clear hv
      have hown2 : (wr.alloc (.cells #[.int .i64 x.sec, .int .i64 x.fin] 40)).ownsRow w.heap.size 3 1 (.slice B L.length d) L.length (L.map (Value.int .i64)) := hown.alloc _
      have F2 : Fr (fun _ => False) w (wr.alloc (.cells #[.int .i64 x.sec, .int .i64 x.fin] 40)) := (F.alloc (.cells #[.int .i64 x.sec, .int .i64 x.fin] 40))
      go_wp2_with fail
      refine KX.mono ?_
      rintro e w3 ⟨rfl, f3⟩
      have hown3 := wide_fr hown2 f3 fun _ _ => id
      have F3 := fr_nil F2 f3
      clear hown hown2 F2 f3 KX
      cases bb with
      | true =>
        have hlo := World.ownsRow.lt hown3
        have hbase : w.heap.size ≤ (w3.alloc (.cells #[.int .i64 (k : Nat)] 3)).heap.size := (F3.alloc _).size
        go_wp2_with (at_builtin; refine wpList_append_wide _ rfl (.tmp 18) (.tmp 20) 25 rfl w.heap.size 3 i0 _ 1 8 Try.underlying25 hi0 hz0 hz1 hz2 rfl (by decide) (.slice B L.length d) L.length (L.map (Value.int .i64)) rfl (hown3.alloc _) (some ⟨w3.heap.size, 0, none⟩) 1 1 [.int .i64 (k : Nat)] rfl rfl (lit_rd rfl _ _) (by simp [Value.oneCell']) (by have := HB1.out; unfold maxLen; omega) HB2.out hbase ?_; intro v6 w6 hown6 hg6 hat6; obtain ⟨A6, c6, rfl, _, _, _, _⟩ := wide_form hown6)
        have F6 := (F3.alloc (.cells #[.int .i64 (k : Nat)] 3)).grown hg6 fun j hj => .inr (hlo j hj).1
        have hown7 : w6.ownsRow w.heap.size 3 1 (.slice A6 (L ++ [((k : Nat) : Int)]).length c6) (L ++ [((k : Nat) : Int)]).length ((L ++ [((k : Nat) : Int)]).map (Value.int .i64)) := by
          rw [List.length_append, List.map_append]
          exact hown6
        have HO7 := Lib.hid hown7
        clear hg6 hat6 hlo hown6 hown7 hbase hown3 F3
        go_wp2_with fail
        go_roundw
        case rel => exact ⟨k + 1, L ++ [((k : Nat) : Int)], A6, c6, by omega, by go_num, by rw [HSN.out]; rfl, by rw [List.length_append]; rfl, HO7.out, F6⟩
        case measure => simp [intOf]; omega
      | false =>
        go_wp2_with fail
        go_roundw
        case rel => exact ⟨k + 1, L, B, d, by omega, by go_num, by rw [HSN.out]; simp, rfl, hown3, F3⟩
        case measure => simp [intOf]; omega
    · have hkl : k = l.length := by omega
      rw [hkl, List.take_length] at hL
      have HL := Lib.hid hL
      have HOW := Lib.hid hown
      have hLb : L.length ≤ 17592186044416 := by have := HLL.out; omega
      have HLB := Lib.hid hLb
      clear hL hown hkl hLl hLb
      go_wp2_with fail
      go_ret
      obtain ⟨o1, o2⟩ := own_l3w HOW.out HLB.out
      exact ⟨⟨B, L, d⟩, rfl, HL.out, o1, o2, F⟩
end Go.Proofs.Ytfmhfngilimhjaa.Te

namespace Go.Proofs.Ytfmhfngilimhjaa.Te
open Go.RowKit

def Retw (W : World) (T : List Int) (e : Ending) (w' : World) : Prop := ∃ (A : Option Addr) (l : List Int) (c : Nat), e = .returned (.slice A l.length c) ∧ l = T ∧ (L3.mk A l c).OkW w' ∧ (∀ q, blk A = some q → W.heap.size ≤ q ∧ q < w'.heap.size) ∧ Fr (fun _ => False) W w'
theorem ret_ofw {W : World} {T : List Int} {e : Ending} {w' : World} (h : ∃ x : L3, e = .returned x.val ∧ x.l = T ∧ x.OkW w' ∧ (∀ q, blk x.A = some q → W.heap.size ≤ q ∧ q < w'.heap.size) ∧ Fr (fun _ => False) W w') : Retw W T e w' := by
  obtain ⟨x, he, hl, ok, hn, F⟩ := h
  exact ⟨x.A, x.l, x.c, he, hl, ok, hn, F⟩
set_option maxHeartbeats 2000000 in
set_option maxRecDepth 100000 in
theorem shape_w {w : World} {C : Cf} (hC : C.Ok w) (oc : Int) :
    Calls Try.prog 9 #[C.val, .int .i64 oc] w fun e w' => ∃ x : Sta, e = .returned x.val ∧ x.st = shL C oc ∧ x.OkW w' ∧ x.New w.heap.size ∧ Fr (fun _ => False) w w' := by
  have hmf : ∀ (fn : Fn) (first cap : Array Value) (w : World), (Instr.makeFunc fn first cap).run Try.prog w = .ok (.func fn first cap) w := fun _ _ _ _ => rfl
  obtain ⟨wA, hwA⟩ : ∃ wA, wA = (((w.alloc (.cells C.cells.toArray 30)).alloc (.cells #[.int .i64 oc] 3)).alloc (.cells #[.slice none 0 0, .slice none 0 0, .slice none 0 0, .slice none 0 0] 33)).alloc (.cells (C.ctl oc).toArray 78) := ⟨_, rfl⟩
  have fA : Fr (fun _ => False) w wA := by rw [hwA]; exact ((((Fr.refl _ w).alloc _).alloc _).alloc _).alloc _
  have i0 : Is wA w.heap.size 30 C.cells.toArray := by rw [hwA]; exact (((Is.new _ _ _).alloc _).alloc _).alloc _
  have i1 : Is wA (w.heap.size + 1) 3 #[.int .i64 oc] := by
    rw [hwA]
    have := Is.new (w.alloc (.cells C.cells.toArray 30)) 3 #[.int .i64 oc]
    simp only [World.size_alloc] at this
    exact (this.alloc _).alloc _
  have i2 : Is wA (w.heap.size + 2) 33 #[.slice none 0 0, .slice none 0 0, .slice none 0 0, .slice none 0 0] := by
    rw [hwA]
    have := Is.new ((w.alloc (.cells C.cells.toArray 30)).alloc (.cells #[.int .i64 oc] 3)) 33 #[.slice none 0 0, .slice none 0 0, .slice none 0 0, .slice none 0 0]
    simp only [World.size_alloc] at this
    exact this.alloc _
  have i3 : Is wA (w.heap.size + 3) 78 (C.ctl oc).toArray := by
    rw [hwA]
    have := Is.new (((w.alloc (.cells C.cells.toArray 30)).alloc (.cells #[.int .i64 oc] 3)).alloc (.cells #[.slice none 0 0, .slice none 0 0, .slice none 0 0, .slice none 0 0] 33)) 78 (C.ctl oc).toArray
    simp only [World.size_alloc] at this
    exact this
  have hCA := hC.fr fA
  have N1 := fun (W : World) (f : Fr (fun _ => False) wA W) => (nums1w (c := C.c1) ((i1.fr f id).cell 0) (hCA.secs.fr f fun _ _ => id) hCA.b1).mono fun e w' h => (ret_ofw h : Retw W (idx (inB oc) 0 C.l) e w')
  have N2 := fun (W : World) (f : Fr (fun _ => False) wA W) => (nums2w (c := C.c1) ((i1.fr f id).cell 0) (hCA.secs.fr f fun _ _ => id) hCA.b1).mono fun e w' h => (ret_ofw h : Retw W (idx (ptB oc) 0 C.l) e w')
  have N3 := fun (W : World) (f : Fr (fun _ => False) wA W) => (nums3w (c := C.c4) (hCA.secs.fr f fun _ _ => id) hCA.b1 oc (hCA.crs.fr f fun _ _ => id) hCA.b4).mono fun e w' h => (ret_ofw h : Retw W (idx (hasB C.l oc) 0 C.cr) e w')
  have N4 := fun (W : World) (f : Fr (fun _ => False) wA W) => (nums4w (c := C.c3) (i3.fr f id) (hCA.secs.fr f fun _ _ => id) hCA.b1 (hCA.sigs.fr f fun _ _ => id) hCA.b3).mono fun e w' h => (ret_ofw h : Retw W (idx (sgB C.l oc) 0 C.sg) e w')
  have hT : shL C oc = ⟨idx (inB oc) 0 C.l, idx (ptB oc) 0 C.l, idx (hasB C.l oc) 0 C.cr, idx (sgB C.l oc) 0 C.sg⟩ := rfl
  rw [hT]
  clear hT hC hCA
  generalize idx (inB oc) 0 C.l = T1 at *
  generalize idx (ptB oc) 0 C.l = T2 at *
  generalize idx (hasB C.l oc) 0 C.cr = T3 at *
  generalize idx (sgB C.l oc) 0 C.sg = T4 at *
  obtain ⟨A1, c1, l, A2, n2, c2, A3, c3, sg, A4, c4, cr, A5, n5, c5, ⟨ta, tb, th, tu⟩⟩ := C
  unfold Cf.val
  unfold Cf.ctl Cf.cells at *
  simp only [List.cons_append, List.nil_append] at *
  have HWA := Lib.hid hwA
  have HFA := Lib.hid fA
  have HI2 := Lib.hid i2
  have HI0 := Lib.hid i0
  have HI3 := Lib.hid i3
  have sl : ∀ (U : World), Fr (fun k => k = w.heap.size + 2) wA U → (U.cell? ⟨w.heap.size, 0, none⟩ = some (.slice A1 l.length c1) ∧ U.cell? ⟨w.heap.size, 2, none⟩ = some (.slice A3 sg.length c3) ∧ U.cell? ⟨w.heap.size, 3, none⟩ = some (.slice A4 cr.length c4)) ∧ U.cell? ⟨w.heap.size + 3, 0, none⟩ = some (.slice A1 l.length c1) ∧ U.cell? ⟨w.heap.size + 3, 1, none⟩ = some (.slice A2 n2 c2) ∧ U.cell? ⟨w.heap.size + 3, 2, none⟩ = some (.slice A3 sg.length c3) ∧ U.cell? ⟨w.heap.size + 3, 3, none⟩ = some (.slice A4 cr.length c4) ∧ U.cell? ⟨w.heap.size + 3, 4, none⟩ = some (.slice A5 n5 c5) ∧ U.cell? ⟨w.heap.size + 3, 5, none⟩ = some (.int .i64 ta) ∧ U.cell? ⟨w.heap.size + 3, 6, none⟩ = some (.int .i64 tb) ∧ U.cell? ⟨w.heap.size + 3, 7, none⟩ = some (.int .i64 th) ∧ U.cell? ⟨w.heap.size + 3, 8, none⟩ = some (.int .i64 tu) ∧ U.cell? ⟨w.heap.size + 3, 9, none⟩ = some (.int .i64 oc)   := fun U F => by
    have j0 := HI0.out.fr F (by omega)
    have j3 := HI3.out.fr F (by omega)
    exact ⟨⟨j0.cell 0, j0.cell 2, j0.cell 3⟩, ten_cells9 j3⟩
  have SLH := Lib.hid sl
  clear hwA fA i0 i1 i2 i3 sl
  go_enter Try.func9, Try.ntmps9
  go_wp2_with fail
  rw [← HWA.out]
  have g0 : Fr (fun _ => False) wA wA.drew := (Fr.refl _ wA).drew
  refine wp_region_held_drew (S := fun Wx => (Wx.cell? ⟨w.heap.size, 0, none⟩ = some (.slice A1 l.length c1) ∧ Wx.cell? ⟨w.heap.size, 2, none⟩ = some (.slice A3 sg.length c3) ∧ Wx.cell? ⟨w.heap.size, 3, none⟩ = some (.slice A4 cr.length c4)) ∧ Wx.cell? ⟨w.heap.size + 3, 0, none⟩ = some (.slice A1 l.length c1) ∧ Wx.cell? ⟨w.heap.size + 3, 1, none⟩ = some (.slice A2 n2 c2) ∧ Wx.cell? ⟨w.heap.size + 3, 2, none⟩ = some (.slice A3 sg.length c3) ∧ Wx.cell? ⟨w.heap.size + 3, 3, none⟩ = some (.slice A4 cr.length c4) ∧ Wx.cell? ⟨w.heap.size + 3, 4, none⟩ = some (.slice A5 n5 c5) ∧ Wx.cell? ⟨w.heap.size + 3, 5, none⟩ = some (.int .i64 ta) ∧ Wx.cell? ⟨w.heap.size + 3, 6, none⟩ = some (.int .i64 tb) ∧ Wx.cell? ⟨w.heap.size + 3, 7, none⟩ = some (.int .i64 th) ∧ Wx.cell? ⟨w.heap.size + 3, 8, none⟩ = some (.int .i64 tu) ∧ Wx.cell? ⟨w.heap.size + 3, 9, none⟩ = some (.int .i64 oc)) (by kernel_rfl) (SLH.out _ (g0.mono fun _ _ h => h.elim)) (fun hHeld => ?_)
  refine wpAnyH_take (i := 0) (v := ?_) rfl (by kernel_rfl) (by kernel_rfl) (by kernel_rfl) (fun _ _ _ h => h) (Or.inl ⟨by rfl, ?_⟩) (by assumption) ?_
  rotate_left
  · intro Wx hSw
    try dsimp only at hSw
    go_simp
    try with_reducible rfl
  try simp only [Act.put]
  refine wpAnyH_take (i := 1) (v := ?_) rfl (by kernel_rfl) (by kernel_rfl) (by kernel_rfl) (fun _ _ _ h => h) (Or.inl ⟨by rfl, ?_⟩) (by assumption) ?_
  rotate_left
  · intro Wx hSw
    try dsimp only at hSw
    go_simp
    try with_reducible rfl
  try simp only [Act.put]
  refine wpAnyH_take (i := 4) (v := ?_) rfl (by kernel_rfl) (by kernel_rfl) (by kernel_rfl) (fun _ _ _ h => h) (Or.inl ⟨by rfl, ?_⟩) (by assumption) ?_
  rotate_left
  · intro Wx hSw
    try dsimp only at hSw
    go_simp
    try with_reducible rfl
  try simp only [Act.put]
  refine wpAnyH_take (i := 5) (v := ?_) rfl (by kernel_rfl) (by kernel_rfl) (by kernel_rfl) (fun _ _ _ h => h) (Or.inl ⟨by rfl, ?_⟩) (by assumption) ?_
  rotate_left
  · intro Wx hSw
    try dsimp only at hSw
    go_simp
    try with_reducible rfl
  try simp only [Act.put]
  refine wpAnyH_take (i := 8) (v := ?_) rfl (by kernel_rfl) (by kernel_rfl) (by kernel_rfl) (fun _ _ _ h => h) (Or.inl ⟨by rfl, ?_⟩) (by assumption) ?_
  rotate_left
  · intro Wx hSw
    try dsimp only at hSw
    go_simp
    try with_reducible rfl
  try simp only [Act.put]
  refine wpAnyH_take (i := 9) (v := ?_) rfl (by kernel_rfl) (by kernel_rfl) (by kernel_rfl) (fun _ _ _ h => h) (Or.inl ⟨by rfl, ?_⟩) (by assumption) ?_
  rotate_left
  · intro Wx hSw
    try dsimp only at hSw
    go_simp
    try with_reducible rfl
  try simp only [Act.put]
  refine wpAnyH_take (i := 10) (v := ?_) rfl (by kernel_rfl) (by kernel_rfl) (by kernel_rfl) (fun _ _ _ h => h) (Or.inl ⟨by rfl, ?_⟩) (by assumption) ?_
  rotate_left
  · intro Wx hSw
    try dsimp only at hSw
    go_simp
    try with_reducible rfl
  try simp only [Act.put]
  refine wpAnyH_take (i := 13) (v := ?_) rfl (by kernel_rfl) (by kernel_rfl) (by kernel_rfl) (fun _ _ _ h => h) (Or.inl ⟨by rfl, ?_⟩) (by assumption) ?_
  rotate_left
  · intro Wx hSw
    try dsimp only at hSw
    go_simp
    try with_reducible rfl
  try simp only [Act.put]
  refine wpAnyH_take (i := 14) (v := ?_) rfl (by kernel_rfl) (by kernel_rfl) (by kernel_rfl) (fun _ _ _ h => h) (Or.inl ⟨by rfl, ?_⟩) (by assumption) ?_
  rotate_left
  · intro Wx hSw
    try dsimp only at hSw
    go_simp
    try with_reducible rfl
  try simp only [Act.put]
  refine wpAnyH_take (i := 2) (v := ?_) rfl (by kernel_rfl) (by kernel_rfl) (by kernel_rfl) (fun _ _ _ h => h) (Or.inl ⟨by rfl, ?_⟩) (by assumption) ?_
  rotate_left
  · intro Wx hSw
    try dsimp only at hSw
    go_simp
    try with_reducible rfl
  try simp only [Act.put]
  refine wpAnyH_take (i := 6) (v := ?_) rfl (by kernel_rfl) (by kernel_rfl) (by kernel_rfl) (fun _ _ _ h => h) (Or.inl ⟨by rfl, ?_⟩) (by assumption) ?_
  rotate_left
  · intro Wx hSw
    try dsimp only at hSw
    go_simp
    try with_reducible rfl
  try simp only [Act.put]
  refine wpAnyH_take (i := 11) (v := ?_) rfl (by kernel_rfl) (by kernel_rfl) (by kernel_rfl) (fun _ _ _ h => h) (Or.inl ⟨by rfl, ?_⟩) (by assumption) ?_
  rotate_left
  · intro Wx hSw
    try dsimp only at hSw
    go_simp
    try with_reducible rfl
  try simp only [Act.put]
  refine wpAnyH_take (i := 15) (v := ?_) rfl (by kernel_rfl) (by kernel_rfl) (by kernel_rfl) (fun _ _ _ h => h) (Or.inl ⟨by rfl, ?_⟩) (by assumption) ?_
  rotate_left
  · intro Wx hSw
    try dsimp only at hSw
    go_simp
    try with_reducible rfl
  try simp only [Act.put]
  refine wpAnyH_ready (rs := [3]) (by kernel_rfl) (by simp) (AllReadyH.cons rfl (fun K hK => ?_) AllReadyH.nil)
  go_simp
  refine (N1 _ g0).mono ?_
  intro e u1 hret
  unfold Retw at hret
  obtain ⟨B1, m1, d1, rfl, e1, o1, n1, f1⟩ := hret
  have E1 := Lib.hid e1
  have O1 := Lib.hid o1
  have M1 := Lib.hid n1
  have H1 := Lib.hid f1
  have g1 := fr_nil g0 f1
  clear e1 o1 n1 f1 N1
  go_simp
  refine hK.out _ _ (SLH.out _ (g1.mono fun _ _ h => h.elim)) (fun hHeld => ?_)
  clear hK K
  refine wpAnyH_ready (rs := [7]) (by kernel_rfl) (by simp) (AllReadyH.cons rfl (fun K hK => ?_) AllReadyH.nil)
  go_simp
  refine (N2 _ g1).mono ?_
  intro e u2 hret
  unfold Retw at hret
  obtain ⟨B2, m2, d2, rfl, e2, o2, n2, f2⟩ := hret
  have E2 := Lib.hid e2
  have O2 := Lib.hid o2
  have M2 := Lib.hid n2
  have H2 := Lib.hid f2
  have g2 := fr_nil g1 f2
  clear e2 o2 n2 f2 N2
  go_simp
  refine hK.out _ _ (SLH.out _ (g2.mono fun _ _ h => h.elim)) (fun hHeld => ?_)
  clear hK K
  refine wpAnyH_ready (rs := [12]) (by kernel_rfl) (by simp) (AllReadyH.cons rfl (fun K hK => ?_) AllReadyH.nil)
  go_simp
  refine (N3 _ g2).mono ?_
  intro e u3 hret
  unfold Retw at hret
  obtain ⟨B3, m3, d3, rfl, e3, o3, n3, f3⟩ := hret
  have E3 := Lib.hid e3
  have O3 := Lib.hid o3
  have M3 := Lib.hid n3
  have H3 := Lib.hid f3
  have g3 := fr_nil g2 f3
  clear e3 o3 n3 f3 N3
  go_simp
  refine hK.out _ _ (SLH.out _ (g3.mono fun _ _ h => h.elim)) (fun hHeld => ?_)
  clear hK K
  refine wpAnyH_ready (rs := [16]) (by kernel_rfl) (by simp) (AllReadyH.cons rfl (fun K hK => ?_) AllReadyH.nil)
  go_simp
  refine (N4 _ g3).mono ?_
  intro e u4 hret
  unfold Retw at hret
  obtain ⟨B4, m4, d4, rfl, e4, o4, n4, f4⟩ := hret
  have E4 := Lib.hid e4
  have O4 := Lib.hid o4
  have M4 := Lib.hid n4
  have H4 := Lib.hid f4
  have g4 := fr_nil g3 f4
  clear e4 o4 n4 f4 N4
  go_simp
  refine hK.out _ _ (SLH.out _ (g4.mono fun _ _ h => h.elim)) (fun hHeld => ?_)
  clear hK K
  refine wpAnyH_take (i := 17) (v := ?_) rfl (by kernel_rfl) (by kernel_rfl) (by kernel_rfl) (fun _ _ _ h => h) (Or.inl ⟨by rfl, ?_⟩) (by assumption) ?_
  rotate_left
  · intro Wx hSw
    try dsimp only at hSw
    go_simp
    try with_reducible rfl
  try simp only [Act.put]
  have J4 := Lib.hid (HI2.out.fr g4 id)
  have z0 : u4.frozen? ⟨w.heap.size + 2, 0, none⟩ = false := J4.out.frozen 0
  have z1 : u4.frozen? ⟨w.heap.size + 2, 1, none⟩ = false := J4.out.frozen 1
  have z2 : u4.frozen? ⟨w.heap.size + 2, 2, none⟩ = false := J4.out.frozen 2
  have z3 : u4.frozen? ⟨w.heap.size + 2, 3, none⟩ = false := J4.out.frozen 3
  obtain ⟨k0, k1, k2, k3⟩ := four_cells J4.out
  have fz := ((((Fr.refl (fun k => k = w.heap.size + 2) u4).setCell (p := ⟨w.heap.size + 2, 0, none⟩) (.inl rfl) (.slice B1 m1.length d1)).setCell (p := ⟨w.heap.size + 2, 1, none⟩) (.inl rfl) (.slice B2 m2.length d2)).setCell (p := ⟨w.heap.size + 2, 2, none⟩) (.inl rfl) (.slice B3 m3.length d3)).setCell (p := ⟨w.heap.size + 2, 3, none⟩) (.inl rfl) (.slice B4 m4.length d4)
  have FZ := Lib.hid fz
  clear fz
  refine wpAnyH_ready (rs := [18]) (by kernel_rfl) (by simp) (AllReadyH.cons rfl (fun K hK => ?_) AllReadyH.nil)
  go_simp
  refine hK.out _ _ (SLH.out _ ((g4.mono fun _ _ h => h.elim).trans FZ.out fun _ _ h => h)) (fun hHeld => ?_)
  clear hK K
  refine wpAnyH_done (by kernel_rfl) ?_ _
  have i7 := (((J4.out.set 0 (.slice B1 m1.length d1)).set 1 (.slice B2 m2.length d2)).set 2 (.slice B3 m3.length d3)).set 3 (.slice B4 m4.length d4)
  have hz : w.heap.size + 4 ≤ wA.heap.size := HI3.out.lt
  have y0 : wA.heap.size = wA.drew.heap.size := rfl
  have y1 := H1.out.size
  have y2 := H2.out.size
  have y3 := H3.out.size
  have y4 := H4.out.size
  have q1 : ∀ q, blk B1 = some q → ¬ q = w.heap.size + 2 := fun q hq e => by have := (M1.out q hq).1; omega
  have q2 : ∀ q, blk B2 = some q → ¬ q = w.heap.size + 2 := fun q hq e => by have := (M2.out q hq).1; omega
  have q3 : ∀ q, blk B3 = some q → ¬ q = w.heap.size + 2 := fun q hq e => by have := (M3.out q hq).1; omega
  have q4 : ∀ q, blk B4 = some q → ¬ q = w.heap.size + 2 := fun q hq e => by have := (M4.out q hq).1; omega
  have ok1 := (((O1.out.fr H2.out fun _ _ => id).fr H3.out fun _ _ => id).fr H4.out fun _ _ => id).fr FZ.out q1
  have ok2 := ((O2.out.fr H3.out fun _ _ => id).fr H4.out fun _ _ => id).fr FZ.out q2
  have ok3 := (O3.out.fr H4.out fun _ _ => id).fr FZ.out q3
  have ok4 := O4.out.fr FZ.out q4
  have r1 : ∀ q, blk B1 = some q → w.heap.size ≤ q := fun q hq => by have := (M1.out q hq).1; omega
  have r2 : ∀ q, blk B2 = some q → w.heap.size ≤ q := fun q hq => by have := (M2.out q hq).1; omega
  have r3 : ∀ q, blk B3 = some q → w.heap.size ≤ q := fun q hq => by have := (M3.out q hq).1; omega
  have r4 : ∀ q, blk B4 = some q → w.heap.size ≤ q := fun q hq => by have := (M4.out q hq).1; omega
  have fin : Fr (fun _ => False) w ((((u4.setCell ⟨w.heap.size + 2, 0, none⟩ (.slice B1 m1.length d1)).setCell ⟨w.heap.size + 2, 1, none⟩ (.slice B2 m2.length d2)).setCell ⟨w.heap.size + 2, 2, none⟩ (.slice B3 m3.length d3)).setCell ⟨w.heap.size + 2, 3, none⟩ (.slice B4 m4.length d4)) := (fr_nil HFA.out g4).trans FZ.out (fun j hj e => by omega)
  clear FZ J4 z0 z1 z2 z3 k0 k1 k2 k3 hHeld q1 q2 q3 q4 O1 O2 O3 O4 M1 M2 M3 M4 H1 H2 H3 H4 g0 g1 g2 g3 g4 SLH HI0 HI2 HI3 HFA HWA
  generalize (((u4.setCell ⟨w.heap.size + 2, 0, none⟩ (.slice B1 m1.length d1)).setCell ⟨w.heap.size + 2, 1, none⟩ (.slice B2 m2.length d2)).setCell ⟨w.heap.size + 2, 2, none⟩ (.slice B3 m3.length d3)).setCell ⟨w.heap.size + 2, 3, none⟩ (.slice B4 m4.length d4) = W at *
  obtain ⟨v0, v1, v2, v3⟩ := four_cells i7
  go_wp2_with fail
  refine bodyPost_ret (v := .agg #[.slice B1 m1.length d1, .slice B2 m2.length d2, .slice B3 m3.length d3, .slice B4 m4.length d4]) (by simp [results, Try.results9, go_sem, v0, v1, v2, v3]) rfl ⟨⟨⟨B1, m1, d1⟩, ⟨B2, m2, d2⟩, ⟨B3, m3, d3⟩, ⟨B4, m4, d4⟩⟩, rfl, ?_, ⟨ok1, ok2, ok3, ok4⟩, ⟨r1, r2, r3, r4⟩, fin⟩
  unfold Sta.st
  rw [E1.out, E2.out, E3.out, E4.out]
end Go.Proofs.Ytfmhfngilimhjaa.Te

namespace Go.Proofs.Ytfmhfngilimhjaa.Te
open Go.RowKit

/-- a list of so many numbers may be written; its block lies in [lo, hi) -/
def Wr (w : World) (lo hi : Nat) (A : Option Addr) (n : Nat) : Prop := 0 < n → ∃ q cur, A = some ⟨q, 0, none⟩ ∧ Is w q 3 cur ∧ n ≤ cur.size ∧ lo ≤ q ∧ q < hi
theorem Wr.fr {w w1 : World} {lo hi n : Nat} {A : Option Addr} {S : Nat → Prop} (h : Wr w lo hi A n) (f : Fr S w w1) (hS : ∀ q, lo ≤ q → q < hi → ¬ S q) : Wr w1 lo hi A n := fun h0 => by
  obtain ⟨q, cur, e, i, a, b, c⟩ := h h0
  exact ⟨q, cur, e, i.fr f (hS q b c), a, b, c⟩
theorem Wr.set {w : World} {lo hi n g k : Nat} {A : Option Addr} (h : Wr w lo hi A n) (v : Value) : Wr (w.setCell ⟨g, k, none⟩ v) lo hi A n := fun h0 => by
  obtain ⟨q, cur, e, i, a, b, c⟩ := h h0
  by_cases hq : q = g
  · subst hq
    exact ⟨q, _, e, i.set k v, by simpa using a, b, c⟩
  · exact ⟨q, cur, e, i.far (p := ⟨g, k, none⟩) hq v, a, b, c⟩
theorem L3.OkW.wr4 {w : World} {lo hi : Nat} {x : L3} (h : x.OkW w) (hlo : ∀ q, blk x.A = some q → lo ≤ q ∧ q < hi) : Wr w lo hi x.A x.l.length := fun h0 => by
  obtain ⟨g, o, hA, _, _⟩ := h.ok.rd (by simpa using h0)
  have hb : blk x.A = some g := by rw [hA]; rfl
  obtain ⟨e, cur, i, l⟩ := h.wr g hb
  exact ⟨g, cur, e, i, l, (hlo g hb).1, (hlo g hb).2⟩
/-- a cell of such a list -/
theorem Wr.cell {w : World} {lo hi n k : Nat} {A : Option Addr} (h : Wr w lo hi A n) (hk : k < n) : ∃ g v, A = some ⟨g, 0, none⟩ ∧ w.cell? ⟨g, k, none⟩ = some v ∧ w.frozen? ⟨g, k, none⟩ = false ∧ lo ≤ g ∧ g < hi := by
  obtain ⟨q, cur, e, i, a, b, c⟩ := h (by omega)
  exact ⟨q, cur[k], e, (i.cell k).trans (Array.getElem?_eq_getElem (by omega)), i.frozen k, b, c⟩
end Go.Proofs.Ytfmhfngilimhjaa.Te

namespace Go.Proofs.Ytfmhfngilimhjaa.Te
open Go.RowKit

set_option maxHeartbeats 1000000 in
theorem sameshape_any {x y : Sta} {w : World} (hx : x.Ok w) (hy : y.Ok w) (he : x.st = y.st) :
    Calls Try.prog 11 #[x.val, y.val] w fun e w' => e = .returned (.bool true) ∧ Fr (fun _ => False) w w' := by
  obtain ⟨⟨A0, l0, c0⟩, ⟨A1, l1, c1⟩, ⟨A2, l2, c2⟩, ⟨A3, l3, c3⟩⟩ := x
  obtain ⟨⟨B0, m0, d0⟩, ⟨B1, m1, d1⟩, ⟨B2, m2, d2⟩, ⟨B3, m3, d3⟩⟩ := y
  unfold Sta.st at he
  injection he with h0 h1 h2 h3
  simp only at h0 h1 h2 h3
  subst h0 h1 h2 h3
  unfold Sta.val
  simp only
  have i1 : Is ((w.alloc (.cells #[.slice A0 l0.length c0, .slice A1 l1.length c1, .slice A2 l2.length c2, .slice A3 l3.length c3] 33)).alloc (.cells #[.slice B0 l0.length d0, .slice B1 l1.length d1, .slice B2 l2.length d2, .slice B3 l3.length d3] 33)) w.heap.size 33 #[.slice A0 l0.length c0, .slice A1 l1.length c1, .slice A2 l2.length c2, .slice A3 l3.length c3] := (Is.new _ _ _).alloc _
  have i2 : Is ((w.alloc (.cells #[.slice A0 l0.length c0, .slice A1 l1.length c1, .slice A2 l2.length c2, .slice A3 l3.length c3] 33)).alloc (.cells #[.slice B0 l0.length d0, .slice B1 l1.length d1, .slice B2 l2.length d2, .slice B3 l3.length d3] 33)) (w.heap.size + 1) 33 #[.slice B0 l0.length d0, .slice B1 l1.length d1, .slice B2 l2.length d2, .slice B3 l3.length d3] := by
    have := Is.new (w.alloc (.cells #[.slice A0 l0.length c0, .slice A1 l1.length c1, .slice A2 l2.length c2, .slice A3 l3.length c3] 33)) 33 #[.slice B0 l0.length d0, .slice B1 l1.length d1, .slice B2 l2.length d2, .slice B3 l3.length d3]
    simpa using this
  have f0 : Fr (fun _ => False) w ((w.alloc (.cells #[.slice A0 l0.length c0, .slice A1 l1.length c1, .slice A2 l2.length c2, .slice A3 l3.length c3] 33)).alloc (.cells #[.slice B0 l0.length d0, .slice B1 l1.length d1, .slice B2 l2.length d2, .slice B3 l3.length d3] 33)) := ((Fr.refl _ w).alloc _).alloc _
  generalize hW : ((w.alloc (.cells #[.slice A0 l0.length c0, .slice A1 l1.length c1, .slice A2 l2.length c2, .slice A3 l3.length c3] 33)).alloc (.cells #[.slice B0 l0.length d0, .slice B1 l1.length d1, .slice B2 l2.length d2, .slice B3 l3.length d3] 33)) = w0 at *
  have HW := Lib.hid hW
  clear hW
  have o0 := hx.fr f0
  have o9 := hy.fr f0
  have KL := fun (W : World) (A B : Option Addr) (l : List Int) (c d : Nat) (k : (L3.mk A l c).Ok W) (k2 : (L3.mk B l d).Ok W) => sameints_any (l := l) (c := c) (c' := d) k.rd k2.rd (by have : l.length ≤ 17592186044416 := k.le; omega)
  have HX0 := Lib.hid o0
  have HY0 := Lib.hid o9
  have I0 := Lib.hid i1
  have J0 := Lib.hid i2
  have F0 := Lib.hid f0
  have a0 := four_cells i1
  have b0 := four_cells i2
  clear hx hy i1 i2 o0 o9 f0
  go_enter Try.func11, Try.ntmps11
  go_wp2_with fail
  rw [HW.out]
  refine (KL _ _ _ _ _ _ HX0.out.occ HY0.out.occ).mono ?_
  rintro e w1 ⟨rfl, f1⟩
  have HX1 := Lib.hid (HX0.out.fr f1)
  have HY1 := Lib.hid (HY0.out.fr f1)
  have I1 := Lib.hid (I0.out.fr f1 id)
  have J1 := Lib.hid (J0.out.fr f1 id)
  have F1 := Lib.hid (fr_nil F0.out f1)
  have a1 := four_cells I1.out
  have b1 := four_cells J1.out
  clear f1 HX0 HY0 I0 J0 F0 a0 b0
  go_wp2_with fail
  refine (KL _ _ _ _ _ _ HX1.out.pos HY1.out.pos).mono ?_
  rintro e w2 ⟨rfl, f2⟩
  have HX2 := Lib.hid (HX1.out.fr f2)
  have HY2 := Lib.hid (HY1.out.fr f2)
  have I2 := Lib.hid (I1.out.fr f2 id)
  have J2 := Lib.hid (J1.out.fr f2 id)
  have F2 := Lib.hid (fr_nil F1.out f2)
  have a2 := four_cells I2.out
  have b2 := four_cells J2.out
  clear f2 HX1 HY1 I1 J1 F1 a1 b1
  go_wp2_with fail
  refine (KL _ _ _ _ _ _ HX2.out.shut HY2.out.shut).mono ?_
  rintro e w3 ⟨rfl, f3⟩
  have HX3 := Lib.hid (HX2.out.fr f3)
  have HY3 := Lib.hid (HY2.out.fr f3)
  have I3 := Lib.hid (I2.out.fr f3 id)
  have J3 := Lib.hid (J2.out.fr f3 id)
  have F3 := Lib.hid (fr_nil F2.out f3)
  have a3 := four_cells I3.out
  have b3 := four_cells J3.out
  clear f3 HX2 HY2 I2 J2 F2 a2 b2
  go_wp2_with fail
  refine (KL _ _ _ _ _ _ HX3.out.lamp HY3.out.lamp).mono ?_
  rintro e w4 ⟨rfl, f4⟩
  have HX4 := Lib.hid (HX3.out.fr f4)
  have HY4 := Lib.hid (HY3.out.fr f4)
  have I4 := Lib.hid (I3.out.fr f4 id)
  have J4 := Lib.hid (J3.out.fr f4 id)
  have F4 := Lib.hid (fr_nil F3.out f4)
  have a4 := four_cells I4.out
  have b4 := four_cells J4.out
  clear f4 HX3 HY3 I3 J3 F3 a3 b3
  go_wp2_with fail
  go_ret
  exact ⟨rfl, F4.out⟩
end Go.Proofs.Ytfmhfngilimhjaa.Te


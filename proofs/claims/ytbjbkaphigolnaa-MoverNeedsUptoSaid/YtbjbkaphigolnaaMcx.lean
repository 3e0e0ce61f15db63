/- The contract of package mover's Crossings. -/
import Derived.Test.YtbjbkaphigolnaaMcr
namespace Go.Proofs.Ytbjbkaphigolnaa.Mv
open Go.RowKit

/-- the crossings among the first k of the list whose section stands in the path -/
def crsT (path : List St) (cr : List Int) (k : Nat) : List Int := ((List.range k).filter fun i => path.any (inB (cr.getD i 0))).map Int.ofNat
theorem crsT_snoc (path : List St) (cr : List Int) (k : Nat) (h : k < cr.length) : crsT path cr (k + 1) = crsT path cr k ++ (if path.any (inB cr[k]) = true then [(k : Int)] else []) := by
  unfold crsT
  rw [List.range_succ, List.filter_append, List.map_append]
  congr 1
  have e : cr.getD k 0 = cr[k] := by rw [List.getD_eq_getElem?_getD, List.getElem?_eq_getElem h]; rfl
  cases hq : path.any (inB cr[k])
  · rw [List.filter_cons_of_neg (by rw [e, hq]; decide)]
    rfl
  · rw [List.filter_cons_of_pos (by rw [e]; exact hq)]
    rfl
theorem crsT_le (path : List St) (cr : List Int) (k : Nat) : (crsT path cr k).length ≤ k := by
  unfold crsT
  rw [List.length_map]
  have := List.length_filter_le (fun i => path.any (inB (cr.getD i 0))) (List.range k)
  rw [List.length_range] at this
  exact this
/-- the crossings of a route -/
def crs (C : Cm) (r : Int) : List Int := if 0 ≤ r then (match C.rs[r.toNat]? with | none => [] | some q => crsT q.path C.cr C.cr.length) else []
theorem crs_neg {C : Cm} {r : Int} (h : ¬ 0 ≤ r) : crs C r = [] := by unfold crs; rw [if_neg h]
theorem crs_far {C : Cm} {r : Int} (h : 0 ≤ r) (h2 : ¬ r < C.rs.length) : crs C r = [] := by
  unfold crs
  rw [if_pos h, List.getElem?_eq_none (by omega)]
theorem crs_at {C : Cm} {j : Nat} (h : j < C.rs.length) : crs C (j : Int) = crsT C.rs[j].path C.cr C.cr.length := by
  unfold crs
  rw [if_pos (by omega), show ((j : Int)).toNat = j by omega, List.getElem?_eq_getElem h]
/-- a row of numbers of the call's own -/
def Nms (w0 : Nat) (l : List Int) (w : World) (v : Value) : Prop := ∃ A c, v = .slice A l.length c ∧ w.ownsRow w0 3 1 (.slice A l.length c) l.length (l.map (Value.int .i64))
theorem Nms.nil (w0 : Nat) (w : World) : Nms w0 [] w (.slice none 0 0) := ⟨none, 0, rfl, World.ownsRow_nil w w0 _ 1⟩
theorem Nms.fr {w0 : Nat} {l : List Int} {w w1 : World} {v : Value} (h : Nms w0 l w v) (f : Fr (fun _ => False) w w1) : Nms w0 l w1 v := by
  obtain ⟨A, c, rfl, o⟩ := h
  exact ⟨A, c, rfl, wide_fr o f fun _ _ => id⟩
def NmsE (w0 : Nat) (l : List Int) (w : World) (e : Ending) (w' : World) : Prop := ∃ v, e = .returned v ∧ Nms w0 l w' v ∧ Fr (fun _ => False) w w'

set_option maxHeartbeats 8000000 in
set_option maxRecDepth 100000 in
theorem crossings_any {C : Cm} (r : Int) (w : World) (hC : C.Ok w) : Calls Try.prog 15 #[C.val, .int .i64 r] w (NmsE w.heap.size (crs C r) w) := by
  have KH := hasr_any C.A5 C.rs.length C.c5 r
  have f0 := (Fr.refl (fun _ => False) w).alloc (.cells C.arr 40)
  have ib := Is.new w 40 C.arr
  unfold Cm.val
  unfold Cm.arr at *
  by_cases h0 : 0 ≤ r
  · by_cases h1 : r < C.rs.length
    · rw [decide_eq_true h0, decide_eq_true h1] at KH
      obtain ⟨j, hj⟩ : ∃ j : Nat, r = (j : Int) := ⟨r.toNat, by omega⟩
      subst hj
      have hjl : j < C.rs.length := by omega
      have hN := Lib.hid (crs_at (C := C) hjl)
      have hr := hC.each _ (List.getElem_mem hjl)
      obtain ⟨g, o, e5, s0, s1, s2, s3, s4, s5⟩ := rd_ro hC.rts hjl
      have hl5 := hC.l5
      have hk5 := hC.k5
      have hl4 := hC.l4
      have hk4 := hC.k4
      have hb4 := hC.b4
      have hcr := hC.crs
      generalize C.rs[j] = q at *
      obtain ⟨A1, c1, l, A2, c2, js, A3, c3, sg, A4, c4, cr, A5, c5, rs, tm⟩ := C
      simp only at *
      subst e5
      generalize crs _ (j : Int) = T at *
      have KP := fun x W (f : Fr (fun _ => False) w W) => passes_any (q := q) x W (hr.fr f)
      have HF0 := Lib.hid f0
      have HG : Hid (g < w.heap.size) := Lib.hid (World.block_lt_of_cell? _ _ s3)
      have HSS := Lib.hid (show _ ∧ _ ∧ _ ∧ _ ∧ _ ∧ _ from ⟨s0, s1, s2, s3, s4, s5⟩)
      have HIB := Lib.hid ib
      unfold Ro.val at KP
      obtain ⟨en, ex, a1, q1, path, a2, q2, flank, a3, q3, over, sh⟩ := q
      simp only at *
      have HK := Lib.hid KP
      clear hC h0 h1 hr KP
      have b4 := ib.cell 4
      have b3 := ib.cell 3
      clear ib f0 s0 s1 s2 s3 s4 s5
      go_enter Try.func15, Try.ntmps15
      go_wp2_with fail
      refine (KH _).mono ?_
      clear KH
      rintro e w1 ⟨rfl, rfl⟩
      go_wp2_with fail
      generalize w.alloc _ = w1 at *
      generalize hzb : w.heap.size = zb at *
      have HZ := Lib.hid hzb
      clear hzb b4 b3
      go_loopg [5, 6, 7, 16] cr.length (fun gh v5 v6 v7 i wr => ∃ k : Nat, k ≤ cr.length ∧ gh = cr.length - k ∧ i = .int .i64 (k : Nat) ∧ Nms zb (crsT path cr k) wr v5 ∧ Fr (fun _ => False) w wr ∧ Is wr zb 40 #[.slice A1 l.length c1, .slice A2 js.length c2, .slice A3 sg.length c3, .slice A4 cr.length c4, .slice (some ⟨g, o, none⟩) rs.length c5, .int .i64 tm.age, .int .i64 tm.brake, .int .i64 tm.hold, .int .i64 tm.budget])
      case atStart => exact ⟨0, Nat.zero_le _, rfl, rfl, Nms.nil _ _, HF0.out, HIB.out⟩
      case round =>
        clear HF0 HIB
        obtain ⟨k, hk, rfl, rfl, ⟨A, c, rfl, hown⟩, f, ib⟩ := hrel
        by_cases hlt : k < cr.length
        · obtain ⟨gp, op, ea, p0⟩ := rd_int (hcr.fr f fun _ _ => id) hlt
          subst ea
          have hsn := crsT_snoc path cr k hlt
          have hle := crsT_le path cr k
          generalize cr[k] = x at *
          have hgl : g < w.heap.size := by have := HG.out; have := HZ.out; omega
          have x0 := (f.cell (p := ⟨g, o + j * 6, none⟩) hgl id).trans HSS.out.1
          have x1 := (f.cell (p := ⟨g, o + j * 6 + 1, none⟩) hgl id).trans HSS.out.2.1
          have x2 := (f.cell (p := ⟨g, o + j * 6 + 2, none⟩) hgl id).trans HSS.out.2.2.1
          have x3 := (f.cell (p := ⟨g, o + j * 6 + 3, none⟩) hgl id).trans HSS.out.2.2.2.1
          have x4 := (f.cell (p := ⟨g, o + j * 6 + 4, none⟩) hgl id).trans HSS.out.2.2.2.2.1
          have x5 := (f.cell (p := ⟨g, o + j * 6 + 5, none⟩) hgl id).trans HSS.out.2.2.2.2.2
          have b4 := ib.cell 4
          have KX := HK.out x wr f
          have HSN := Lib.hid hsn
          clear hsn hgl
          generalize crsT path cr k = L at *
          cases hq : path.any (inB x)
          · rw [hq] at KX
            have HM : Hid (crsT path cr (k + 1) = L) := Lib.hid (by rw [HSN.out, hq]; simp)
            clear hq HSN
            go_wp2_with fail
            refine KX.mono ?_
            clear KX
            rintro e w2 ⟨rfl, f2⟩
            have HN : Hid (Nms zb (crsT path cr (k + 1)) w2 (.slice A L.length c)) := Lib.hid (by rw [HM.out]; exact ⟨A, c, rfl, wide_fr hown f2 fun _ _ => id⟩)
            replace ib := ib.fr f2 id
            replace f := fr_nil f f2
            clear p0 x0 x1 x2 x3 x4 x5 b4 hown f2 HM
            go_wp2_with fail
            go_roundg (cr.length - (k + 1))
            case measure => omega
            case rel => exact ⟨k + 1, by omega, rfl, by go_num, HN.out, f, ib⟩
          · rw [hq] at KX
            have HM : Hid (crsT path cr (k + 1) = L ++ [(k : Int)]) := Lib.hid (by rw [HSN.out, hq]; simp)
            clear hq HSN
            go_wp2_with fail
            refine KX.mono ?_
            clear KX
            rintro e w2 ⟨rfl, f2⟩
            have hown2 := wide_fr hown f2 fun _ _ => id
            replace ib := ib.fr f2 id
            replace f := fr_nil f f2
            clear p0 x0 x1 x2 x3 x4 x5 b4 hown f2
            obtain ⟨i0, hi0, hz0, hz1, hz2⟩ := info_parts Try.infoI
            have fb := (Fr.refl (fun _ => False) w2).alloc (.cells #[.int .i64 (k : Int)] 3)
            have hfs := f.size
            go_wp2_with (at_builtin; refine wpList_append_wide _ rfl (.tmp 28) (.tmp 30) 35 rfl zb 3 i0 _ 1 8 Try.underlying35 hi0 hz0 hz1 hz2 rfl (by decide) (.slice A L.length c) L.length (L.map (Value.int .i64)) rfl (hown2.alloc _) (some ⟨w2.heap.size, 0, none⟩) 1 1 [.int .i64 (k : Int)] rfl rfl (lit_rd w2 _ _) (by simp [Value.oneCell']) (by unfold maxLen; omega) (by omega) (by have := HZ.out; have := fb.size; omega) ?_)
            intro v5 w5 hown5 hg5 _
            have hne := wide_is_ne (hown2.alloc (.cells #[.int .i64 (k : Int)] 3)) (ib.fr fb id) (by decide)
            have hlo := World.ownsRow.lt (hown2.alloc (.cells #[.int .i64 (k : Int)] 3))
            have ib5 := (ib.fr fb id).fr ((Fr.refl (fun q => (Value.slice A L.length c).ownBlock = some q) _).grown hg5 fun _ hq => .inl hq) hne
            have f5 : Fr (fun _ => False) w w5 := (fr_nil f fb).grown hg5 fun q hq => .inr (by have := (hlo q hq).1; have := HZ.out; omega)
            obtain ⟨A5, c5', rfl, _, _, _, _⟩ := wide_form hown5
            have HN : Hid (Nms zb (crsT path cr (k + 1)) w5 (.slice A5 (L.length + 1) c5')) := Lib.hid (by rw [HM.out]; exact ⟨A5, c5', by simp, by simp only [List.length_append, List.length_cons, List.length_nil, List.map_append, List.map_cons, List.map_nil]; exact hown5⟩)
            clear hown2 hown5 hg5 hne hlo HM f fb ib hi0 hz0 hz1 hz2
            go_wp2_with fail
            go_roundg (cr.length - (k + 1))
            case measure => omega
            case rel => exact ⟨k + 1, by omega, rfl, by go_num, HN.out, f5, ib5⟩
        · have hk' : k = cr.length := by omega
          have HN : Hid (Nms zb T wr (.slice A (crsT path cr k).length c)) := Lib.hid (by rw [hN.out, ← hk']; exact ⟨A, c, rfl, hown⟩)
          generalize crsT path cr k = L at *
          clear hown hk' ib
          go_wp2_with fail
          go_ret
          exact ⟨_, rfl, HN.out, f⟩
    · rw [decide_eq_true h0, decide_eq_false h1] at KH
      have HT := Lib.hid (crs_far (C := C) h0 h1)
      have HF0 := Lib.hid f0
      have b4 := ib.cell 4
      generalize crs C r = T at *
      clear h0 h1 f0 ib hC
      go_enter Try.func15, Try.ntmps15
      go_wp2_with fail
      refine (KH _).mono ?_
      clear KH
      rintro e w1 ⟨rfl, rfl⟩
      go_wp2_with fail
      go_ret
      exact ⟨_, rfl, by rw [HT.out]; exact Nms.nil _ _, HF0.out⟩
  · rw [decide_eq_false h0] at KH
    have HT := Lib.hid (crs_neg (C := C) h0)
    have HF0 := Lib.hid f0
    have b4 := ib.cell 4
    generalize crs C r = T at *
    clear h0 f0 ib hC
    go_enter Try.func15, Try.ntmps15
    go_wp2_with fail
    refine (KH _).mono ?_
    clear KH
    rintro e w1 ⟨rfl, rfl⟩
    go_wp2_with fail
    go_ret
    exact ⟨_, rfl, by rw [HT.out]; exact Nms.nil _ _, HF0.out⟩
end Go.Proofs.Ytbjbkaphigolnaa.Mv

/- Contracts and plain mathematics of earlier stages: Mrn, Mrx. -/
import Derived.Test.YtginfnbdnkgjbaaGreatMk
import Derived.Deep.CutRange
namespace Go.Proofs.YtginfnbdnkgjbaaGreat.Mv
open Go.RowKit

end Go.Proofs.YtginfnbdnkgjbaaGreat.Mv

namespace Go.Proofs.YtginfnbdnkgjbaaGreat.Mv
open Go.RowKit

set_option maxHeartbeats 8000000 in
set_option maxRecDepth 100000 in
theorem rcrossings_any {C : Cm} (r : Int) (w : World) (hC : C.Ok w) : Calls Tryz.prog 109 #[C.val, .int .i64 r] w (NmsE w.heap.size (crs C r) w) := by
  have f0 := (Fr.refl (fun _ => False) w).alloc (.cells C.arr 30)
  have ib := Is.new w 30 C.arr
  unfold Cm.val
  unfold Cm.arr at *
  by_cases h0 : 0 ≤ r
  · by_cases h1 : r < C.rs.length
    · obtain ⟨j, hj⟩ : ∃ j : Nat, r = (j : Int) := ⟨r.toNat, by omega⟩
      subst hj
      have hjl : j < C.rs.length := by omega
      have dj0 : decide ((j : Int) < 0) = false := decide_eq_false (by omega)
      have dj1 : decide (C.rs.length ≤ j) = false := decide_eq_false (by omega)
      have hN := Lib.hid (crs_at (C := C) hjl)
      have hr := hC.each _ (List.getElem_mem hjl)
      obtain ⟨g, o, e5, s0, s1, s2, s3, s4, s5⟩ := rd_ro hC.rts hjl
      have hl5 := hC.l5
      have hk5 := hC.k5
      have hl4 := hC.l4
      have hk4 := hC.k4
      have hb4 := hC.b4
      have hcr := hC.crs
      generalize C.rs[j] = q at *
      obtain ⟨A1, c1, l, A2, c2, js, A3, c3, sg, A4, c4, cr, A5, c5, rs, tm⟩ := C
      simp only at *
      subst e5
      generalize crs _ (j : Int) = T at *
      have hp := hr.path
      have hl1 := hr.l1
      have hk1 := hr.k1
      have HF0 := Lib.hid f0
      have HG : Hid (g < w.heap.size) := Lib.hid (World.block_lt_of_cell? _ _ s3)
      have HSS := Lib.hid (show _ ∧ _ ∧ _ ∧ _ ∧ _ ∧ _ from ⟨s0, s1, s2, s3, s4, s5⟩)
      have HIB := Lib.hid ib
      obtain ⟨en, ex, a1, q1, path, a2, q2, flank, a3, q3, over, sh⟩ := q
      simp only at *
      clear hC h0 h1 hr
      have b4 := ib.cell 4
      have b3 := ib.cell 3
      clear ib f0 s0 s1 s2 s3 s4 s5
      go_enter Tryz.func109, Tryz.ntmps109
      go_wp2_with fail
      generalize w.alloc _ = w1 at *
      generalize hzb : w.heap.size = zb at *
      have HZ := Lib.hid hzb
      clear hzb b4 b3
      go_loopg [5, 6, 7, 22] cr.length (fun gh v5 v6 v7 i wr => ∃ k : Nat, k ≤ cr.length ∧ gh = cr.length - k ∧ i = .int .i64 (k : Nat) ∧ Nms zb (crsT path cr k) wr v5 ∧ Fr (fun _ => False) w wr ∧ Is wr zb 30 #[.slice A1 l.length c1, .slice A2 js.length c2, .slice A3 sg.length c3, .slice A4 cr.length c4, .slice (some ⟨g, o, none⟩) rs.length c5, .int .i64 tm.age, .int .i64 tm.brake, .int .i64 tm.hold, .int .i64 tm.budget])
      case atStart => exact ⟨0, Nat.zero_le _, rfl, rfl, Nms.nil _ _, HF0.out, HIB.out⟩
      case round =>
        clear HF0 HIB
        obtain ⟨k, hk, rfl, rfl, ⟨A, c, rfl, hown⟩, f, ib⟩ := hrel
        by_cases hlt : k < cr.length
        · obtain ⟨gp, op, ea, p0⟩ := rd_int (hcr.fr f fun _ _ => id) hlt
          subst ea
          have hsn := crsT_snoc path cr k hlt
          have hle := crsT_le path cr k
          generalize cr[k] = x at *
          have hgl : g < w.heap.size := by have := HG.out; have := HZ.out; omega
          have x0 := (f.cell (p := ⟨g, o + j * 6, none⟩) hgl id).trans HSS.out.1
          have x1 := (f.cell (p := ⟨g, o + j * 6 + 1, none⟩) hgl id).trans HSS.out.2.1
          have x2 := (f.cell (p := ⟨g, o + j * 6 + 2, none⟩) hgl id).trans HSS.out.2.2.1
          have x3 := (f.cell (p := ⟨g, o + j * 6 + 3, none⟩) hgl id).trans HSS.out.2.2.2.1
          have x4 := (f.cell (p := ⟨g, o + j * 6 + 4, none⟩) hgl id).trans HSS.out.2.2.2.2.1
          have x5 := (f.cell (p := ⟨g, o + j * 6 + 5, none⟩) hgl id).trans HSS.out.2.2.2.2.2
          have b4 := ib.cell 4
          have HSN := Lib.hid hsn
          clear hsn hgl
          generalize crsT path cr k = L at *
          go_wp2_with fail
          clear x0 x1 x2 x3 x4 x5 b4 p0
          go_loopg [5, 34] path.length (fun gi v5 i wr => ∃ m : Nat, m ≤ path.length ∧ gi = path.length - m ∧ i = .int .i64 (m : Nat) ∧ v5 = .slice A L.length c ∧ (path.take m).any (inB x) = false ∧ wr.ownsRow zb 3 1 (.slice A L.length c) L.length (L.map (Value.int .i64)) ∧ Fr (fun _ => False) w wr ∧ Is wr zb 30 #[.slice A1 l.length c1, .slice A2 js.length c2, .slice A3 sg.length c3, .slice (some ⟨gp, op, none⟩) cr.length c4, .slice (some ⟨g, o, none⟩) rs.length c5, .int .i64 tm.age, .int .i64 tm.brake, .int .i64 tm.hold, .int .i64 tm.budget])
          case atStart => exact ⟨0, Nat.zero_le _, rfl, rfl, rfl, rfl, hown, f, ib⟩
          case round =>
            clear hown f ib
            obtain ⟨m, hm, rfl, rfl, rfl, hno, hown, f, ib⟩ := hrel
            by_cases hml : m < path.length
            · obtain ⟨gq, oq, eq, p0, p1, p2⟩ := rd_st (hp.fr f fun _ _ => id) hml
              subst eq
              have htk : (path.take (m + 1)).any (inB x) = inB x path[m] := by rw [List.take_succ_eq_append_getElem hml, List.any_append, hno]; simp
              have hin : inB x path[m] = true → path.any (inB x) = true := fun e => List.any_eq_true.2 ⟨_, List.getElem_mem hml, e⟩
              generalize path[m] = s at *
              obtain ⟨ss, si, so⟩ := s
              simp only at p0 p1 p2
              have fa := (Fr.refl (fun _ => False) wr).alloc (.cells #[.int .i64 ss, .int .i64 si, .int .i64 so] 76)
              have hown2 := wide_fr hown fa fun _ _ => id
              replace ib := ib.fr fa id
              replace f := fr_nil f fa
              by_cases hx : ss = x
              · subst hx
                have HM : Hid (crsT path cr (k + 1) = L ++ [(k : Int)]) := Lib.hid (by rw [HSN.out, hin (by simp [inB])]; simp)
                clear hno htk hin HSN hown fa
                obtain ⟨i0, hi0, hz0, hz1, hz2⟩ := info_parts Tryz.infoI
                go_upto_region 11 with fail
                generalize wr.alloc _ = w2 at *
                have fb := (Fr.refl (fun _ => False) w2).alloc (.cells #[.int .i64 (k : Int)] 3)
                have hfs := f.size
                clear p0 p1 p2
                go_wp2_with (at_builtin; refine wpList_append_wide _ rfl (.tmp 42) (.tmp 44) 25 rfl zb 3 i0 _ 1 8 Tryz.underlying25 hi0 hz0 hz1 hz2 rfl (by decide) (.slice A L.length c) L.length (L.map (Value.int .i64)) rfl (hown2.alloc _) (some ⟨w2.heap.size, 0, none⟩) 1 1 [.int .i64 (k : Int)] rfl rfl (lit_rd w2 _ _) (by simp [Value.oneCell']) (by unfold maxLen; omega) (by omega) (by have := HZ.out; have := fb.size; omega) ?_)
                intro v5 w5 hown5 hg5 _
                have hne := wide_is_ne (hown2.alloc (.cells #[.int .i64 (k : Int)] 3)) (ib.fr fb id) (by decide)
                have hlo := World.ownsRow.lt (hown2.alloc (.cells #[.int .i64 (k : Int)] 3))
                have ib5 := (ib.fr fb id).fr ((Fr.refl (fun q => (Value.slice A L.length c).ownBlock = some q) _).grown hg5 fun _ hq => .inl hq) hne
                have f5 : Fr (fun _ => False) w w5 := (fr_nil f fb).grown hg5 fun q hq => .inr (by have := (hlo q hq).1; have := HZ.out; omega)
                obtain ⟨A5, c5', rfl, _, _, _, _⟩ := wide_form hown5
                have HN : Hid (Nms zb (crsT path cr (k + 1)) w5 (.slice A5 (L.length + 1) c5')) := Lib.hid (by rw [HM.out]; exact ⟨A5, c5', by simp, by simp only [List.length_append, List.length_cons, List.length_nil, List.map_append, List.map_cons, List.map_nil]; exact hown5⟩)
                clear hown2 hown5 hg5 hne hlo HM f fb ib hi0 hz0 hz1 hz2
                go_wp2_with fail
                go_roundg (cr.length - (k + 1))
                case measure => omega
                case rel => exact ⟨k + 1, by omega, rfl, by go_num, HN.out, f5, ib5⟩
              · have hxb : (ss == x) = false := by simpa using hx
                have HTK : Hid ((path.take (m + 1)).any (inB x) = false) := Lib.hid (by rw [htk]; exact hxb)
                clear hno htk hin hown fa hx
                go_wp2_with fail
                go_roundg (path.length - (m + 1))
                case measure => omega
                case rel => exact ⟨m + 1, by omega, rfl, by go_num, rfl, HTK.out, hown2, f, ib⟩
            · have hmk : m = path.length := by omega
              rw [hmk, List.take_length] at hno
              have HN : Hid (Nms zb (crsT path cr (k + 1)) wr (.slice A L.length c)) := Lib.hid (by rw [HSN.out, hno]; exact ⟨A, c, by simp, by simpa using hown⟩)
              clear hno HSN hown hmk
              go_wp2_with fail
              go_roundg (cr.length - (k + 1))
              case measure => omega
              case rel => exact ⟨k + 1, by omega, rfl, by go_num, HN.out, f, ib⟩
        · have hk' : k = cr.length := by omega
          have HN : Hid (Nms zb T wr (.slice A (crsT path cr k).length c)) := Lib.hid (by rw [hN.out, ← hk']; exact ⟨A, c, rfl, hown⟩)
          generalize crsT path cr k = L at *
          clear hown hk' ib
          go_wp2_with fail
          go_ret
          exact ⟨_, rfl, HN.out, f⟩
    · have d0 : decide (r < 0) = false := decide_eq_false (by omega)
      have d1 : decide ((C.rs.length : Int) ≤ r) = true := decide_eq_true (by omega)
      have HT := Lib.hid (crs_far (C := C) h0 h1)
      have HF0 := Lib.hid f0
      have b4 := ib.cell 4
      generalize crs C r = T at *
      clear h0 h1 f0 ib hC
      go_enter Tryz.func109, Tryz.ntmps109
      go_wp2_with fail
      go_ret
      exact ⟨_, rfl, by rw [HT.out]; exact Nms.nil _ _, HF0.out⟩
  · have d0 : decide (r < 0) = true := decide_eq_true (by omega)
    have HT := Lib.hid (crs_neg (C := C) h0)
    have HF0 := Lib.hid f0
    have b4 := ib.cell 4
    generalize crs C r = T at *
    clear h0 f0 ib hC
    go_enter Tryz.func109, Tryz.ntmps109
    go_wp2_with fail
    go_ret
    exact ⟨_, rfl, by rw [HT.out]; exact Nms.nil _ _, HF0.out⟩
end Go.Proofs.YtginfnbdnkgjbaaGreat.Mv


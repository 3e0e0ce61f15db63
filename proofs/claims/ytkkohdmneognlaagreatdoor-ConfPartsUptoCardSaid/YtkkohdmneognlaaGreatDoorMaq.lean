/- The contract of Text. -/
import Derived.Test.YtkkohdmneognlaaGreatDoorMap
import Derived.Deep.RegionHeld3
namespace Go.Proofs.YtkkohdmneognlaaGreatDoor
open Go.RowKit

theorem Sheet.lt {q b : Nat} {bs : List UInt8} {w : World} (h : Sheet q b bs w) : b < w.heap.size := by
  rcases h with h | h
  · exact h.lt
  · exact h.lt
theorem secT_len (v : Sec) : (secT v).length = (rowM wSec [v.kind, v.oc, v.line]).length + 1 := by unfold secT; rw [List.length_append]; rfl
theorem joT_len (v : Jo) : (joT v).length = (rowM wJo [v.a, v.ae, v.b, v.be]).length + 1 := by unfold joT; rw [List.length_append]; rfl
theorem sgT_len (v : Sg) : (sgT v).length = (rowM wSg [v.sec, v.fin]).length + 1 := by unfold sgT; rw [List.length_append]; rfl
theorem crT_len (v : Int) : (crT v).length = (rowM wCr [v]).length + 1 := by unfold crT; rw [List.length_append]; rfl
theorem rtT_len (v : Rt) : (rtT v).length = (joinM (rtRows v)).length + 1 := by unfold rtT; rw [List.length_append]; rfl
def rtO (r : Ro) : List UInt8 := rtT r.rt
theorem rtO_flat (l : List Ro) : (l.map Ro.rt).flatMap rtT = l.flatMap rtO := by rw [List.flatMap_map]; rfl
theorem numsM_len2 {n : Nat} {wd : List UInt8} {l : List Int} (h : (rowM wd l).length ≤ n) : l.length ≤ n := by
  have := numsM_le l
  unfold rowM at h
  rw [List.length_append] at h
  omega
theorem rows_len {n : Nat} {a : List UInt8} {b c d : List UInt8} {x y z : List Int} (h : (joinM [a, rowM b x, rowM c y, rowM d z]).length ≤ n) : x.length ≤ n ∧ y.length ≤ n ∧ z.length ≤ n := by
  simp only [joinM, List.length_append, List.length_cons] at h
  exact ⟨numsM_len2 (wd := b) (by omega), numsM_len2 (wd := c) (by omega), numsM_len2 (wd := d) (by omega)⟩
theorem conf_cells {C : Cm} {w : World} {b : Nat} (h : Is w b 30 C.arr) : w.cell? ⟨b, 0, none⟩ = some (.slice C.A1 C.l.length C.c1) ∧ w.cell? ⟨b, 1, none⟩ = some (.slice C.A2 C.js.length C.c2) ∧ w.cell? ⟨b, 2, none⟩ = some (.slice C.A3 C.sg.length C.c3) ∧ w.cell? ⟨b, 3, none⟩ = some (.slice C.A4 C.cr.length C.c4) ∧ w.cell? ⟨b, 4, none⟩ = some (.slice C.A5 C.rs.length C.c5) ∧ w.cell? ⟨b, 5, none⟩ = some (.int .i64 C.tm.age) ∧ w.cell? ⟨b, 6, none⟩ = some (.int .i64 C.tm.brake) ∧ w.cell? ⟨b, 7, none⟩ = some (.int .i64 C.tm.hold) ∧ w.cell? ⟨b, 8, none⟩ = some (.int .i64 C.tm.budget) :=
  ⟨h.cell 0, h.cell 1, h.cell 2, h.cell 3, h.cell 4, h.cell 5, h.cell 6, h.cell 7, h.cell 8⟩

set_option maxRecDepth 100000 in
set_option maxHeartbeats 16000000 in
theorem text_any (C : Cm) (w : World) (h : C.Ok w) (hP : Pow w) (h64 : Cf64 C.cf) (hlen : (textM C.cf).length ≤ 1099511627776) :
    Calls Tryz.prog 27 #[C.val] w fun e w' => e = .returned (.string ⟨(textM C.cf).toArray⟩) ∧ Fr (fun _ => False) w w' := by
  have htx : textM C.cf = C.l.flatMap secT ++ (C.js.flatMap joT ++ (C.sg.flatMap sgT ++ (C.cr.flatMap crT ++ ((C.rs.map Ro.rt).flatMap rtT ++ tmT C.tm)))) := rfl
  have hl0 := hlen
  rw [htx] at hl0
  rw [rtO_flat] at hl0
  simp only [List.length_append] at hl0
  have isc : Is ((w.alloc (.cells C.arr 30)).alloc (.cells #[.pointer none, .slice none 0 0] 100)) w.heap.size 30 C.arr := (Is.new w _ _).alloc _
  have hsh : Sheet (w.heap.size + 1) (w.heap.size + 1) [] ((w.alloc (.cells C.arr 30)).alloc (.cells #[.pointer none, .slice none 0 0] 100)) :=
    .inl ⟨Nat.le_refl _, .slice none 0 0, is_new_at (by simp) _ _, World.ownsRow_nil _ _ _ _, by simp [Value.ownBlock]⟩
  have fr := ((Fr.refl (fun _ => False) w).alloc (.cells C.arr 30)).alloc (.cells #[.pointer none, .slice none 0 0] 100)
  have HTX := Lib.hid htx
  have hb1 := h.b1
  have hb2 := h.b2
  have hb3 := h.b3
  have hb4 := h.b4
  have hb5 := h.b5
  clear htx
  unfold Cm.val
  go_enter Tryz.func27, Tryz.ntmps27
  unfold Cm.arr
  go_wp2_with fail
  go_loopw [17] (fun v wr => ∃ k : Nat, k ≤ C.l.length ∧ v = .int .i64 (k : Nat) ∧ Is wr w.heap.size 30 C.arr ∧ Sheet (w.heap.size + 1) (w.heap.size + 1) ((C.l.take k).flatMap secT) wr ∧ Fr (fun _ => False) w wr) (fun i _ => C.l.length - (intOf i).toNat)
  case atStart => exact ⟨0, Nat.zero_le _, rfl, isc, hsh, fr⟩
  case round =>
    clear isc hsh fr
    obtain ⟨k, hk, rfl, isc, hsh, fr⟩ := hrel
    by_cases hlt : k < C.l.length
    · obtain ⟨ga, oa, ha, q0, q1, q2⟩ := rd_sec (h.secs.fr fr fun _ _ => id) hlt
      have hbs : ((C.l.take k).flatMap secT).length ≤ 17592186044416 := by
        have := (flat_le secT C.l).2 k
        try simp only [List.length_append]
        omega
      have hsn : (C.l.take (k + 1)).flatMap secT = ((C.l.take k).flatMap secT) ++ secT C.l[k] := by rw [flat_snoc _ _ _ hlt]; try simp only [List.append_assoc]
      have hv := h64.secs _ (List.getElem_mem hlt)
      have hml : (rowM wSec [C.l[k].kind, C.l[k].oc, C.l[k].line]).length ≤ 17592186044416 := by
        have := (flat_le secT C.l).1 _ (List.getElem_mem hlt)
        have e := secT_len C.l[k]
        omega
      generalize (C.l.take k).flatMap secT = bs at *
      have HS := Lib.hid hsn
      clear hsn
      generalize C.l[k] = v at *
      have KR := row_any ⟨#[115, 101, 99, 116, 105, 111, 110]⟩ (A := some ⟨wr.heap.size + 1, 0, none⟩) (c := 3) [v.kind, v.oc, v.line] ((wr.alloc (.cells #[.int .i64 v.kind, .int .i64 v.oc, .int .i64 v.line] 62)).alloc (.cells #[.int .i64 v.kind, .int .i64 v.oc, .int .i64 v.line] 3)) (lit_rd_at (by simp) _ _) (hP.fr ((fr.alloc _).alloc _)) hv (by decide) (by simp)
      rw [ha]
      have HA := Lib.hid ha
      clear ha
      go_wp2_with fail
      refine KR.mono ?_
      clear KR
      rintro _ w3 ⟨rfl, f3⟩
      have f4 := (fr_nil ((fr.alloc _).alloc _) f3).alloc (.cells #[.string ⟨(rowM (bytesOf ⟨#[115, 101, 99, 116, 105, 111, 110]⟩) [v.kind, v.oc, v.line]).toArray⟩] 9)
      have g4 := (((Fr.refl (fun _ => False) wr).alloc _).alloc _).trans (f3.alloc (.cells #[.string ⟨(rowM (bytesOf ⟨#[115, 101, 99, 116, 105, 111, 110]⟩) [v.kind, v.oc, v.line]).toArray⟩] 9)) fun _ _ h => h
      have KN := line_any (w.heap.size + 1) (w.heap.size + 1) w3.heap.size 1 bs [rowM wSec [v.kind, v.oc, v.line]] (w3.alloc (.cells #[.string ⟨(rowM (bytesOf ⟨#[115, 101, 99, 116, 105, 111, 110]⟩) [v.kind, v.oc, v.line]).toArray⟩] 9)) (Sheet.fr hsh g4) (Nat.le_trans (Nat.le_of_lt (Sheet.lt hsh)) g4.size)
        (by intro j x hj; match j, hj with | 0, hj => simp at hj; subst hj; exact ((Is.new w3 9 _).cell 0)) (by simp) (by simp) (by simp) (by simpa [joinM] using hml) hbs
      go_wp2_with fail
      refine KN.mono ?_
      clear KN
      rintro _ w5 ⟨rfl, h5, f5, _⟩
      have F5 := fr_below f4 (f5.mono (Nat.le_succ _))
      have isc5 : Is w5 w.heap.size 30 C.arr := (f5.block _ (Nat.lt_succ_self _)).trans (isc.fr g4 id)
      go_wp2_with fail
      go_roundw
      case rel => exact ⟨k + 1, by omega, by go_num, isc5, by rw [HS.out]; simpa only [secT, joinM, List.append_assoc] using h5, F5⟩
      case measure => simp [intOf]; omega
    · obtain rfl : k = C.l.length := by omega
      rw [List.take_length] at hsh
      obtain ⟨p0, p1, p2, p3, p4, p5, p6, p7, p8⟩ := conf_cells isc
      go_wp2_with fail
      go_loopw [35] (fun v wr => ∃ k : Nat, k ≤ C.js.length ∧ v = .int .i64 (k : Nat) ∧ Is wr w.heap.size 30 C.arr ∧ Sheet (w.heap.size + 1) (w.heap.size + 1) (C.l.flatMap secT ++ (C.js.take k).flatMap joT) wr ∧ Fr (fun _ => False) w wr) (fun i _ => C.js.length - (intOf i).toNat)
      case atStart => exact ⟨0, Nat.zero_le _, rfl, isc, by simpa only [List.take_zero, List.flatMap_nil, List.append_nil] using hsh, fr⟩
      case round =>
        clear isc hsh fr
        obtain ⟨k, hk, rfl, isc, hsh, fr⟩ := hrel
        by_cases hlt : k < C.js.length
        · obtain ⟨ga, oa, ha, q0, q1, q2, q3⟩ := rd_jo (h.jos.fr fr fun _ _ => id) hlt
          have hbs : (C.l.flatMap secT ++ (C.js.take k).flatMap joT).length ≤ 17592186044416 := by
            have := (flat_le joT C.js).2 k
            try simp only [List.length_append]
            omega
          have hsn : C.l.flatMap secT ++ (C.js.take (k + 1)).flatMap joT = (C.l.flatMap secT ++ (C.js.take k).flatMap joT) ++ joT C.js[k] := by rw [flat_snoc _ _ _ hlt]; try simp only [List.append_assoc]
          have hv := h64.jos _ (List.getElem_mem hlt)
          have hml : (rowM wJo [C.js[k].a, C.js[k].ae, C.js[k].b, C.js[k].be]).length ≤ 17592186044416 := by
            have := (flat_le joT C.js).1 _ (List.getElem_mem hlt)
            have e := joT_len C.js[k]
            omega
          generalize C.l.flatMap secT ++ (C.js.take k).flatMap joT = bs at *
          have HS := Lib.hid hsn
          clear hsn
          generalize C.js[k] = v at *
          have KR := row_any ⟨#[106, 111, 105, 110, 116]⟩ (A := some ⟨wr.heap.size + 1, 0, none⟩) (c := 4) [v.a, v.ae, v.b, v.be] ((wr.alloc (.cells #[.int .i64 v.a, .int .i64 v.ae, .int .i64 v.b, .int .i64 v.be] 69)).alloc (.cells #[.int .i64 v.a, .int .i64 v.ae, .int .i64 v.b, .int .i64 v.be] 3)) (lit_rd_at (by simp) _ _) (hP.fr ((fr.alloc _).alloc _)) hv (by decide) (by simp)
          rw [ha]
          have HA := Lib.hid ha
          clear ha
          go_wp2_with fail
          refine KR.mono ?_
          clear KR
          rintro _ w3 ⟨rfl, f3⟩
          have f4 := (fr_nil ((fr.alloc _).alloc _) f3).alloc (.cells #[.string ⟨(rowM (bytesOf ⟨#[106, 111, 105, 110, 116]⟩) [v.a, v.ae, v.b, v.be]).toArray⟩] 9)
          have g4 := (((Fr.refl (fun _ => False) wr).alloc _).alloc _).trans (f3.alloc (.cells #[.string ⟨(rowM (bytesOf ⟨#[106, 111, 105, 110, 116]⟩) [v.a, v.ae, v.b, v.be]).toArray⟩] 9)) fun _ _ h => h
          have KN := line_any (w.heap.size + 1) (w.heap.size + 1) w3.heap.size 1 bs [rowM wJo [v.a, v.ae, v.b, v.be]] (w3.alloc (.cells #[.string ⟨(rowM (bytesOf ⟨#[106, 111, 105, 110, 116]⟩) [v.a, v.ae, v.b, v.be]).toArray⟩] 9)) (Sheet.fr hsh g4) (Nat.le_trans (Nat.le_of_lt (Sheet.lt hsh)) g4.size)
            (by intro j x hj; match j, hj with | 0, hj => simp at hj; subst hj; exact ((Is.new w3 9 _).cell 0)) (by simp) (by simp) (by simp) (by simpa [joinM] using hml) hbs
          go_wp2_with fail
          refine KN.mono ?_
          clear KN
          rintro _ w5 ⟨rfl, h5, f5, _⟩
          have F5 := fr_below f4 (f5.mono (Nat.le_succ _))
          have isc5 : Is w5 w.heap.size 30 C.arr := (f5.block _ (Nat.lt_succ_self _)).trans (isc.fr g4 id)
          go_wp2_with fail
          go_roundw
          case rel => exact ⟨k + 1, by omega, by go_num, isc5, by rw [HS.out]; simpa only [joT, joinM, List.append_assoc] using h5, F5⟩
          case measure => simp [intOf]; omega
        · obtain rfl : k = C.js.length := by omega
          rw [List.take_length] at hsh
          obtain ⟨p0, p1, p2, p3, p4, p5, p6, p7, p8⟩ := conf_cells isc
          go_wp2_with fail
          go_loopw [55] (fun v wr => ∃ k : Nat, k ≤ C.sg.length ∧ v = .int .i64 (k : Nat) ∧ Is wr w.heap.size 30 C.arr ∧ Sheet (w.heap.size + 1) (w.heap.size + 1) (C.l.flatMap secT ++ C.js.flatMap joT ++ (C.sg.take k).flatMap sgT) wr ∧ Fr (fun _ => False) w wr) (fun i _ => C.sg.length - (intOf i).toNat)
          case atStart => exact ⟨0, Nat.zero_le _, rfl, isc, by simpa only [List.take_zero, List.flatMap_nil, List.append_nil] using hsh, fr⟩
          case round =>
            clear isc hsh fr
            obtain ⟨k, hk, rfl, isc, hsh, fr⟩ := hrel
            by_cases hlt : k < C.sg.length
            · obtain ⟨ga, oa, ha, q0, q1⟩ := rd_sg (h.sigs.fr fr fun _ _ => id) hlt
              have hbs : (C.l.flatMap secT ++ C.js.flatMap joT ++ (C.sg.take k).flatMap sgT).length ≤ 17592186044416 := by
                have := (flat_le sgT C.sg).2 k
                try simp only [List.length_append]
                omega
              have hsn : C.l.flatMap secT ++ C.js.flatMap joT ++ (C.sg.take (k + 1)).flatMap sgT = (C.l.flatMap secT ++ C.js.flatMap joT ++ (C.sg.take k).flatMap sgT) ++ sgT C.sg[k] := by rw [flat_snoc _ _ _ hlt]; try simp only [List.append_assoc]
              have hv := h64.sigs _ (List.getElem_mem hlt)
              have hml : (rowM wSg [C.sg[k].sec, C.sg[k].fin]).length ≤ 17592186044416 := by
                have := (flat_le sgT C.sg).1 _ (List.getElem_mem hlt)
                have e := sgT_len C.sg[k]
                omega
              generalize C.l.flatMap secT ++ C.js.flatMap joT ++ (C.sg.take k).flatMap sgT = bs at *
              have HS := Lib.hid hsn
              clear hsn
              generalize C.sg[k] = v at *
              have KR := row_any ⟨#[115, 105, 103, 110, 97, 108]⟩ (A := some ⟨wr.heap.size + 1, 0, none⟩) (c := 2) [v.sec, v.fin] ((wr.alloc (.cells #[.int .i64 v.sec, .int .i64 v.fin] 56)).alloc (.cells #[.int .i64 v.sec, .int .i64 v.fin] 3)) (lit_rd_at (by simp) _ _) (hP.fr ((fr.alloc _).alloc _)) hv (by decide) (by simp)
              rw [ha]
              have HA := Lib.hid ha
              clear ha
              go_wp2_with fail
              refine KR.mono ?_
              clear KR
              rintro _ w3 ⟨rfl, f3⟩
              have f4 := (fr_nil ((fr.alloc _).alloc _) f3).alloc (.cells #[.string ⟨(rowM (bytesOf ⟨#[115, 105, 103, 110, 97, 108]⟩) [v.sec, v.fin]).toArray⟩] 9)
              have g4 := (((Fr.refl (fun _ => False) wr).alloc _).alloc _).trans (f3.alloc (.cells #[.string ⟨(rowM (bytesOf ⟨#[115, 105, 103, 110, 97, 108]⟩) [v.sec, v.fin]).toArray⟩] 9)) fun _ _ h => h
              have KN := line_any (w.heap.size + 1) (w.heap.size + 1) w3.heap.size 1 bs [rowM wSg [v.sec, v.fin]] (w3.alloc (.cells #[.string ⟨(rowM (bytesOf ⟨#[115, 105, 103, 110, 97, 108]⟩) [v.sec, v.fin]).toArray⟩] 9)) (Sheet.fr hsh g4) (Nat.le_trans (Nat.le_of_lt (Sheet.lt hsh)) g4.size)
                (by intro j x hj; match j, hj with | 0, hj => simp at hj; subst hj; exact ((Is.new w3 9 _).cell 0)) (by simp) (by simp) (by simp) (by simpa [joinM] using hml) hbs
              go_wp2_with fail
              refine KN.mono ?_
              clear KN
              rintro _ w5 ⟨rfl, h5, f5, _⟩
              have F5 := fr_below f4 (f5.mono (Nat.le_succ _))
              have isc5 : Is w5 w.heap.size 30 C.arr := (f5.block _ (Nat.lt_succ_self _)).trans (isc.fr g4 id)
              go_wp2_with fail
              go_roundw
              case rel => exact ⟨k + 1, by omega, by go_num, isc5, by rw [HS.out]; simpa only [sgT, joinM, List.append_assoc] using h5, F5⟩
              case measure => simp [intOf]; omega
            · obtain rfl : k = C.sg.length := by omega
              rw [List.take_length] at hsh
              obtain ⟨p0, p1, p2, p3, p4, p5, p6, p7, p8⟩ := conf_cells isc
              go_wp2_with fail
              go_loopw [71] (fun v wr => ∃ k : Nat, k ≤ C.cr.length ∧ v = .int .i64 (k : Nat) ∧ Is wr w.heap.size 30 C.arr ∧ Sheet (w.heap.size + 1) (w.heap.size + 1) (C.l.flatMap secT ++ C.js.flatMap joT ++ C.sg.flatMap sgT ++ (C.cr.take k).flatMap crT) wr ∧ Fr (fun _ => False) w wr) (fun i _ => C.cr.length - (intOf i).toNat)
              case atStart => exact ⟨0, Nat.zero_le _, rfl, isc, by simpa only [List.take_zero, List.flatMap_nil, List.append_nil] using hsh, fr⟩
              case round =>
                clear isc hsh fr
                obtain ⟨k, hk, rfl, isc, hsh, fr⟩ := hrel
                by_cases hlt : k < C.cr.length
                · obtain ⟨ga, oa, ha, q0⟩ := rd_int (h.crs.fr fr fun _ _ => id) hlt
                  have hbs : (C.l.flatMap secT ++ C.js.flatMap joT ++ C.sg.flatMap sgT ++ (C.cr.take k).flatMap crT).length ≤ 17592186044416 := by
                    have := (flat_le crT C.cr).2 k
                    try simp only [List.length_append]
                    omega
                  have hsn : C.l.flatMap secT ++ C.js.flatMap joT ++ C.sg.flatMap sgT ++ (C.cr.take (k + 1)).flatMap crT = (C.l.flatMap secT ++ C.js.flatMap joT ++ C.sg.flatMap sgT ++ (C.cr.take k).flatMap crT) ++ crT C.cr[k] := by rw [flat_snoc _ _ _ hlt]; try simp only [List.append_assoc]
                  have hv := h64.crs _ (List.getElem_mem hlt)
                  have hml : (rowM wCr [C.cr[k]]).length ≤ 17592186044416 := by
                    have := (flat_le crT C.cr).1 _ (List.getElem_mem hlt)
                    have e := crT_len C.cr[k]
                    omega
                  generalize C.l.flatMap secT ++ C.js.flatMap joT ++ C.sg.flatMap sgT ++ (C.cr.take k).flatMap crT = bs at *
                  have HS := Lib.hid hsn
                  clear hsn
                  generalize C.cr[k] = v at *
                  have KR := row_any ⟨#[99, 114, 111, 115, 115, 105, 110, 103]⟩ (A := some ⟨wr.heap.size, 0, none⟩) (c := 1) [v] ((wr).alloc (.cells #[.int .i64 v] 3)) (lit_rd_at (by simp) _ _) (hP.fr ((fr).alloc _)) (fun x hx => by rw [List.mem_singleton.1 hx]; exact hv) (by decide) (by simp)
                  rw [ha]
                  have HA := Lib.hid ha
                  clear ha
                  go_wp2_with fail
                  refine KR.mono ?_
                  clear KR
                  rintro _ w3 ⟨rfl, f3⟩
                  have f4 := (fr_nil ((fr).alloc _) f3).alloc (.cells #[.string ⟨(rowM (bytesOf ⟨#[99, 114, 111, 115, 115, 105, 110, 103]⟩) [v]).toArray⟩] 9)
                  have g4 := (((Fr.refl (fun _ => False) wr)).alloc _).trans (f3.alloc (.cells #[.string ⟨(rowM (bytesOf ⟨#[99, 114, 111, 115, 115, 105, 110, 103]⟩) [v]).toArray⟩] 9)) fun _ _ h => h
                  have KN := line_any (w.heap.size + 1) (w.heap.size + 1) w3.heap.size 1 bs [rowM wCr [v]] (w3.alloc (.cells #[.string ⟨(rowM (bytesOf ⟨#[99, 114, 111, 115, 115, 105, 110, 103]⟩) [v]).toArray⟩] 9)) (Sheet.fr hsh g4) (Nat.le_trans (Nat.le_of_lt (Sheet.lt hsh)) g4.size)
                    (by intro j x hj; match j, hj with | 0, hj => simp at hj; subst hj; exact ((Is.new w3 9 _).cell 0)) (by simp) (by simp) (by simp) (by simpa [joinM] using hml) hbs
                  go_wp2_with fail
                  refine KN.mono ?_
                  clear KN
                  rintro _ w5 ⟨rfl, h5, f5, _⟩
                  have F5 := fr_below f4 (f5.mono (Nat.le_succ _))
                  have isc5 : Is w5 w.heap.size 30 C.arr := (f5.block _ (Nat.lt_succ_self _)).trans (isc.fr g4 id)
                  go_wp2_with fail
                  go_roundw
                  case rel => exact ⟨k + 1, by omega, by go_num, isc5, by rw [HS.out]; simpa only [crT, joinM, List.append_assoc] using h5, F5⟩
                  case measure => simp [intOf]; omega
                · obtain rfl : k = C.cr.length := by omega
                  rw [List.take_length] at hsh
                  obtain ⟨p0, p1, p2, p3, p4, p5, p6, p7, p8⟩ := conf_cells isc
                  go_wp2_with fail
                  go_loopw [84] (fun v wr => ∃ k : Nat, k ≤ C.rs.length ∧ v = .int .i64 (k : Nat) ∧ Is wr w.heap.size 30 C.arr ∧ Sheet (w.heap.size + 1) (w.heap.size + 1) (C.l.flatMap secT ++ C.js.flatMap joT ++ C.sg.flatMap sgT ++ C.cr.flatMap crT ++ (C.rs.take k).flatMap rtO) wr ∧ Fr (fun _ => False) w wr) (fun i _ => C.rs.length - (intOf i).toNat)
                  case atStart => exact ⟨0, Nat.zero_le _, rfl, isc, by simpa only [List.take_zero, List.flatMap_nil, List.append_nil] using hsh, fr⟩
                  case round =>
                    clear isc hsh fr
                    obtain ⟨k, hk, rfl, isc, hsh, fr⟩ := hrel
                    by_cases hlt : k < C.rs.length
                    · obtain ⟨ga, oa, ha, q0, q1, q2, q3, q4, q5⟩ := rd_ro (h.rts.fr fr fun _ _ => id) hlt
                      have hro : C.rs[k].Ok w := h.each _ (List.getElem_mem hlt)
                      have hbs : (C.l.flatMap secT ++ C.js.flatMap joT ++ C.sg.flatMap sgT ++ C.cr.flatMap crT ++ (C.rs.take k).flatMap rtO).length ≤ 17592186044416 := by
                        have := (flat_le rtO C.rs).2 k
                        try simp only [List.length_append]
                        omega
                      have hsn : C.l.flatMap secT ++ C.js.flatMap joT ++ C.sg.flatMap sgT ++ C.cr.flatMap crT ++ (C.rs.take (k + 1)).flatMap rtO = (C.l.flatMap secT ++ C.js.flatMap joT ++ C.sg.flatMap sgT ++ C.cr.flatMap crT ++ (C.rs.take k).flatMap rtO) ++ rtO C.rs[k] := by rw [flat_snoc _ _ _ hlt]; try simp only [List.append_assoc]
                      have hv : In64 [C.rs[k].entry, C.rs[k].exit] ∧ In64 (stepsL C.rs[k].path) ∧ In64 (needsL C.rs[k].flank) ∧ In64 C.rs[k].over := h64.rts C.rs[k].rt (List.mem_map.2 ⟨_, List.getElem_mem hlt, rfl⟩)
                      have hml : (joinM (rtRows C.rs[k].rt)).length ≤ 1099511627776 := by
                        have := (flat_le rtO C.rs).1 _ (List.getElem_mem hlt)
                        have e := rtT_len C.rs[k].rt
                        have e2 : rtO C.rs[k] = rtT C.rs[k].rt := rfl
                        rw [e2] at this
                        omega
                      generalize C.l.flatMap secT ++ C.js.flatMap joT ++ C.sg.flatMap sgT ++ C.cr.flatMap crT ++ (C.rs.take k).flatMap rtO = bs at *
                      have HS := Lib.hid hsn
                      clear hsn
                      generalize C.rs[k] = v at *
                      obtain ⟨v1, v2, v3, v4⟩ := hv
                      have hm4 : rtRows v.rt = [rowM wRt [v.entry, v.exit, digitM v.shunt], rowM wPath (stepsL v.path), rowM wFlank (needsL v.flank), rowM wOver v.over] := rfl
                      rw [hm4] at hml
                      obtain ⟨m2, m3, m4⟩ := rows_len hml
                      clear hm4
                      have isl0 : Is (wr.alloc (.cells #[.int .i64 v.entry, .int .i64 v.exit, .slice v.a1 v.path.length v.c1, .slice v.a2 v.flank.length v.c2, .slice v.a3 v.over.length v.c3, .bool v.shunt] 43)) wr.heap.size 43 #[.int .i64 v.entry, .int .i64 v.exit, .slice v.a1 v.path.length v.c1, .slice v.a2 v.flank.length v.c2, .slice v.a3 v.over.length v.c3, .bool v.shunt] := Is.new wr _ _
                      rw [ha]
                      have HA := Lib.hid ha
                      clear ha
                      go_upto_region 25 with (fail)
                      have isl := isl0.drew
                      have F := (fr.alloc (.cells #[.int .i64 v.entry, .int .i64 v.exit, .slice v.a1 v.path.length v.c1, .slice v.a2 v.flank.length v.c2, .slice v.a3 v.over.length v.c3, .bool v.shunt] 43)).drew
                      have G := ((Fr.refl (fun _ => False) wr).alloc (.cells #[.int .i64 v.entry, .int .i64 v.exit, .slice v.a1 v.path.length v.c1, .slice v.a2 v.flank.length v.c2, .slice v.a3 v.over.length v.c3, .bool v.shunt] 43)).drew
                      have hblt := Sheet.lt hsh
                      have HBL := Lib.hid (show wr.heap.size = wr.heap.size from rfl)
                      refine wp_region_held_drew (S := fun Wx => Wx.cell? ⟨wr.heap.size, 0, none⟩ = some (.int .i64 v.entry) ∧ Wx.cell? ⟨wr.heap.size, 1, none⟩ = some (.int .i64 v.exit) ∧ Wx.cell? ⟨wr.heap.size, 2, none⟩ = some (.slice v.a1 v.path.length v.c1) ∧ Wx.cell? ⟨wr.heap.size, 3, none⟩ = some (.slice v.a2 v.flank.length v.c2) ∧ Wx.cell? ⟨wr.heap.size, 4, none⟩ = some (.slice v.a3 v.over.length v.c3) ∧ Wx.cell? ⟨wr.heap.size, 5, none⟩ = some (.bool v.shunt)) (by kernel_rfl) (ro_cells isl0) (fun hHeld => ?_)
                      refine wpAnyH_take (i := 0) (v := ?_) rfl (by kernel_rfl) (by kernel_rfl) (by kernel_rfl) (fun _ _ _ h => h) (Or.inl ⟨by rfl, ?_⟩) (by assumption) ?_
                      rotate_left
                      · intro Wx hSw
                        try dsimp only at hSw
                        go_simp
                        try with_reducible rfl
                      try simp only [Act.put]
                      refine wpAnyH_take (i := 1) (v := ?_) rfl (by kernel_rfl) (by kernel_rfl) (by kernel_rfl) (fun _ _ _ h => h) (Or.inl ⟨by rfl, ?_⟩) (by assumption) ?_
                      rotate_left
                      · intro Wx hSw
                        try dsimp only at hSw
                        go_simp
                        try with_reducible rfl
                      try simp only [Act.put]
                      refine wpAnyH_take (i := 2) (v := ?_) rfl (by kernel_rfl) (by kernel_rfl) (by kernel_rfl) (fun _ _ _ h => h) (Or.inl ⟨by rfl, ?_⟩) (by assumption) ?_
                      rotate_left
                      · intro Wx hSw
                        try dsimp only at hSw
                        go_simp
                        try with_reducible rfl
                      try simp only [Act.put]
                      refine wpAnyH_take (i := 3) (v := ?_) rfl (by kernel_rfl) (by kernel_rfl) (by kernel_rfl) (fun _ _ _ h => h) (Or.inl ⟨by rfl, ?_⟩) (by assumption) ?_
                      rotate_left
                      · intro Wx hSw
                        try dsimp only at hSw
                        go_simp
                        try with_reducible rfl
                      try simp only [Act.put]
                      refine wpAnyH_take (i := 4) (v := ?_) rfl (by kernel_rfl) (by kernel_rfl) (by kernel_rfl) (fun _ _ _ h => h) (Or.inl ⟨by rfl, ?_⟩) (by assumption) ?_
                      rotate_left
                      · intro Wx hSw
                        try dsimp only at hSw
                        go_simp
                        try with_reducible rfl
                      try simp only [Act.put]
                      refine wpAnyH_take (i := 5) (v := ?_) rfl (by kernel_rfl) (by kernel_rfl) (by kernel_rfl) (fun _ _ _ h => h) (Or.inl ⟨by rfl, ?_⟩) (by assumption) ?_
                      rotate_left
                      · intro Wx hSw
                        try dsimp only at hSw
                        go_simp
                        try with_reducible rfl
                      try simp only [Act.put]
                      refine wpAnyH_take (i := 9) (v := ?_) rfl (by kernel_rfl) (by kernel_rfl) (by kernel_rfl) (fun _ _ _ h => h) (Or.inl ⟨by rfl, ?_⟩) (by assumption) ?_
                      rotate_left
                      · intro Wx hSw
                        try dsimp only at hSw
                        go_simp
                        try with_reducible rfl
                      try simp only [Act.put]
                      refine wpAnyH_take (i := 10) (v := ?_) rfl (by kernel_rfl) (by kernel_rfl) (by kernel_rfl) (fun _ _ _ h => h) (Or.inl ⟨by rfl, ?_⟩) (by assumption) ?_
                      rotate_left
                      · intro Wx hSw
                        try dsimp only at hSw
                        go_simp
                        try with_reducible rfl
                      try simp only [Act.put]
                      refine wpAnyH_take (i := 13) (v := ?_) rfl (by kernel_rfl) (by kernel_rfl) (by kernel_rfl) (fun _ _ _ h => h) (Or.inl ⟨by rfl, ?_⟩) (by assumption) ?_
                      rotate_left
                      · intro Wx hSw
                        try dsimp only at hSw
                        go_simp
                        try with_reducible rfl
                      try simp only [Act.put]
                      refine wpAnyH_take (i := 14) (v := ?_) rfl (by kernel_rfl) (by kernel_rfl) (by kernel_rfl) (fun _ _ _ h => h) (Or.inl ⟨by rfl, ?_⟩) (by assumption) ?_
                      rotate_left
                      · intro Wx hSw
                        try dsimp only at hSw
                        go_simp
                        try with_reducible rfl
                      try simp only [Act.put]
                      refine wpAnyH_take (i := 17) (v := ?_) rfl (by kernel_rfl) (by kernel_rfl) (by kernel_rfl) (fun _ _ _ h => h) (Or.inl ⟨by rfl, ?_⟩) (by assumption) ?_
                      rotate_left
                      · intro Wx hSw
                        try dsimp only at hSw
                        go_simp
                        try with_reducible rfl
                      try simp only [Act.put]
                      refine wpAnyH_take (i := 18) (v := ?_) rfl (by kernel_rfl) (by kernel_rfl) (by kernel_rfl) (fun _ _ _ h => h) (Or.inl ⟨by rfl, ?_⟩) (by assumption) ?_
                      rotate_left
                      · intro Wx hSw
                        try dsimp only at hSw
                        go_simp
                        try with_reducible rfl
                      try simp only [Act.put]
                      refine wpAnyH_ready (rs := [6]) (by kernel_rfl) (by simp) (AllReadyH.cons rfl (fun K hK => ?_) AllReadyH.nil)
                      go_simp
                      refine (digit_any v.shunt _).mono ?_
                      rintro e w2 ⟨rfl, rfl⟩
                      go_simp
                      refine hK.out _ _ (ro_cells isl) (fun hHeld => ?_)
                      clear hK K
                      refine wpAnyH_ready (rs := [7]) (by kernel_rfl) (by simp) (AllReadyH.cons rfl (fun K hK => ?_) AllReadyH.nil)
                      go_simp
                      have isl : Is ((wr.alloc (.cells #[.int .i64 v.entry, .int .i64 v.exit, .slice v.a1 v.path.length v.c1, .slice v.a2 v.flank.length v.c2, .slice v.a3 v.over.length v.c3, .bool v.shunt] 43)).alloc (.cells #[.int .i64 v.entry, .int .i64 v.exit, .int .i64 (if v.shunt = true then 1 else 0)] 3)).drew wr.heap.size 43 #[.int .i64 v.entry, .int .i64 v.exit, .slice v.a1 v.path.length v.c1, .slice v.a2 v.flank.length v.c2, .slice v.a3 v.over.length v.c3, .bool v.shunt] := (isl0.alloc _).drew
                      refine hK.out _ _ (ro_cells isl) (fun hHeld => ?_)
                      have F := ((fr.alloc (.cells #[.int .i64 v.entry, .int .i64 v.exit, .slice v.a1 v.path.length v.c1, .slice v.a2 v.flank.length v.c2, .slice v.a3 v.over.length v.c3, .bool v.shunt] 43)).alloc (.cells #[.int .i64 v.entry, .int .i64 v.exit, .int .i64 (if v.shunt = true then 1 else 0)] 3)).drew
                      have G := (((Fr.refl (fun _ => False) wr).alloc (.cells #[.int .i64 v.entry, .int .i64 v.exit, .slice v.a1 v.path.length v.c1, .slice v.a2 v.flank.length v.c2, .slice v.a3 v.over.length v.c3, .bool v.shunt] 43)).alloc (.cells #[.int .i64 v.entry, .int .i64 v.exit, .int .i64 (if v.shunt = true then 1 else 0)] 3)).drew
                      have hrd : Rd ((wr.alloc (.cells #[.int .i64 v.entry, .int .i64 v.exit, .slice v.a1 v.path.length v.c1, .slice v.a2 v.flank.length v.c2, .slice v.a3 v.over.length v.c3, .bool v.shunt] 43)).alloc (.cells #[.int .i64 v.entry, .int .i64 v.exit, .int .i64 (if v.shunt = true then 1 else 0)] 3)).drew (some ⟨wr.heap.size + 1, 0, none⟩) ([v.entry, v.exit, digitM v.shunt].map (Value.int .i64)) := (lit_rd_at (w := wr.alloc (.cells #[.int .i64 v.entry, .int .i64 v.exit, .slice v.a1 v.path.length v.c1, .slice v.a2 v.flank.length v.c2, .slice v.a3 v.over.length v.c3, .bool v.shunt] 43)) (by simp) _ _).fr (Fr.refl (fun _ => False) _).drew fun _ _ => id
                      have v1d : In64 [v.entry, v.exit, digitM v.shunt] := by
                        intro x hx
                        simp only [List.mem_cons, List.not_mem_nil, or_false] at hx
                        rcases hx with rfl | rfl | rfl
                        · exact v1 _ (by simp)
                        · exact v1 _ (by simp)
                        · unfold digitM; split <;> omega
                      clear hK K isl0
                      generalize ((wr.alloc (.cells #[.int .i64 v.entry, .int .i64 v.exit, .slice v.a1 v.path.length v.c1, .slice v.a2 v.flank.length v.c2, .slice v.a3 v.over.length v.c3, .bool v.shunt] 43)).alloc (.cells #[.int .i64 v.entry, .int .i64 v.exit, .int .i64 (if v.shunt = true then 1 else 0)] 3)).drew = W2 at *
                      refine wpAnyH_ready (rs := [8]) (by kernel_rfl) (by simp) (AllReadyH.cons rfl (fun K hK => ?_) AllReadyH.nil)
                      go_simp
                      refine (row_any ⟨#[114, 111, 117, 116, 101]⟩ (A := some ⟨wr.heap.size + 1, 0, none⟩) (c := 3) [v.entry, v.exit, digitM v.shunt] _ hrd (hP.fr F) v1d (by decide) (by simp)).mono ?_
                      rintro e w3 ⟨rfl, f3⟩
                      have F := fr_nil F f3
                      have G := fr_nil G f3
                      have isl := isl.fr f3 id
                      go_simp
                      refine hK.out _ _ (ro_cells isl) (fun hHeld => ?_)
                      clear hK K f3
                      refine wpAnyH_ready (rs := [11]) (by kernel_rfl) (by simp) (AllReadyH.cons rfl (fun K hK => ?_) AllReadyH.nil)
                      go_simp
                      refine (stepsL_any (c := v.c1) v.path _ (hro.fr F).path hro.b1).mono ?_
                      rintro e w4 ⟨PA, pc, rfl, hown, f4⟩
                      have hrd := wide_rd hown
                      have F := fr_nil F f4
                      have G := fr_nil G f4
                      have isl := isl.fr f4 id
                      go_simp
                      refine hK.out _ _ (ro_cells isl) (fun hHeld => ?_)
                      clear hK K f4 hown
                      refine wpAnyH_ready (rs := [12]) (by kernel_rfl) (by simp) (AllReadyH.cons rfl (fun K hK => ?_) AllReadyH.nil)
                      go_simp
                      refine (row_any ⟨#[112, 97, 116, 104]⟩ (A := PA) (c := pc) (stepsL v.path) _ hrd (hP.fr F) v2 (by decide) (by omega)).mono ?_
                      rintro e w5 ⟨rfl, f5⟩
                      have F := fr_nil F f5
                      have G := fr_nil G f5
                      have isl := isl.fr f5 id
                      go_simp
                      refine hK.out _ _ (ro_cells isl) (fun hHeld => ?_)
                      clear hK K f5
                      clear hrd
                      refine wpAnyH_ready (rs := [15]) (by kernel_rfl) (by simp) (AllReadyH.cons rfl (fun K hK => ?_) AllReadyH.nil)
                      go_simp
                      refine (needsL_any (c := v.c2) v.flank _ (hro.fr F).flank hro.b2).mono ?_
                      rintro e w6 ⟨PA, pc, rfl, hown, f6⟩
                      have hrd := wide_rd hown
                      have F := fr_nil F f6
                      have G := fr_nil G f6
                      have isl := isl.fr f6 id
                      go_simp
                      refine hK.out _ _ (ro_cells isl) (fun hHeld => ?_)
                      clear hK K f6 hown
                      refine wpAnyH_ready (rs := [16]) (by kernel_rfl) (by simp) (AllReadyH.cons rfl (fun K hK => ?_) AllReadyH.nil)
                      go_simp
                      refine (row_any ⟨#[102, 108, 97, 110, 107]⟩ (A := PA) (c := pc) (needsL v.flank) _ hrd (hP.fr F) v3 (by decide) (by omega)).mono ?_
                      rintro e w7 ⟨rfl, f7⟩
                      have F := fr_nil F f7
                      have G := fr_nil G f7
                      have isl := isl.fr f7 id
                      go_simp
                      refine hK.out _ _ (ro_cells isl) (fun hHeld => ?_)
                      clear hK K f7
                      clear hrd
                      refine wpAnyH_ready (rs := [19]) (by kernel_rfl) (by simp) (AllReadyH.cons rfl (fun K hK => ?_) AllReadyH.nil)
                      go_simp
                      refine (row_any ⟨#[111, 118, 101, 114, 108, 97, 112]⟩ (A := v.a3) (c := v.c3) v.over _ (hro.fr F).over (hP.fr F) v4 (by decide) (by omega)).mono ?_
                      rintro e w8 ⟨rfl, f8⟩
                      have F := fr_nil F f8
                      have G := fr_nil G f8
                      have isl := isl.fr f8 id
                      go_simp
                      refine hK.out _ _ (ro_cells isl) (fun hHeld => ?_)
                      clear hK K f8
                      refine wpAnyH_ready (rs := [20]) (by kernel_rfl) (by simp) (AllReadyH.cons rfl (fun K hK => ?_) AllReadyH.nil)
                      go_simp
                      have F := F.alloc (.cells #[.string ⟨(rowM (bytesOf ⟨#[114, 111, 117, 116, 101]⟩) [v.entry, v.exit, digitM v.shunt]).toArray⟩, .string ⟨(rowM (bytesOf ⟨#[112, 97, 116, 104]⟩) (stepsL v.path)).toArray⟩, .string ⟨(rowM (bytesOf ⟨#[102, 108, 97, 110, 107]⟩) (needsL v.flank)).toArray⟩, .string ⟨(rowM (bytesOf ⟨#[111, 118, 101, 114, 108, 97, 112]⟩) v.over).toArray⟩] 9)
                      have G := G.alloc (.cells #[.string ⟨(rowM (bytesOf ⟨#[114, 111, 117, 116, 101]⟩) [v.entry, v.exit, digitM v.shunt]).toArray⟩, .string ⟨(rowM (bytesOf ⟨#[112, 97, 116, 104]⟩) (stepsL v.path)).toArray⟩, .string ⟨(rowM (bytesOf ⟨#[102, 108, 97, 110, 107]⟩) (needsL v.flank)).toArray⟩, .string ⟨(rowM (bytesOf ⟨#[111, 118, 101, 114, 108, 97, 112]⟩) v.over).toArray⟩] 9)
                      have isl := isl.alloc (.cells #[.string ⟨(rowM (bytesOf ⟨#[114, 111, 117, 116, 101]⟩) [v.entry, v.exit, digitM v.shunt]).toArray⟩, .string ⟨(rowM (bytesOf ⟨#[112, 97, 116, 104]⟩) (stepsL v.path)).toArray⟩, .string ⟨(rowM (bytesOf ⟨#[102, 108, 97, 110, 107]⟩) (needsL v.flank)).toArray⟩, .string ⟨(rowM (bytesOf ⟨#[111, 118, 101, 114, 108, 97, 112]⟩) v.over).toArray⟩] 9)
                      have is4 := Is.new w8 9 #[.string ⟨(rowM (bytesOf ⟨#[114, 111, 117, 116, 101]⟩) [v.entry, v.exit, digitM v.shunt]).toArray⟩, .string ⟨(rowM (bytesOf ⟨#[112, 97, 116, 104]⟩) (stepsL v.path)).toArray⟩, .string ⟨(rowM (bytesOf ⟨#[102, 108, 97, 110, 107]⟩) (needsL v.flank)).toArray⟩, .string ⟨(rowM (bytesOf ⟨#[111, 118, 101, 114, 108, 97, 112]⟩) v.over).toArray⟩]
                      refine hK.out _ _ (ro_cells isl) (fun hHeld => ?_)
                      clear hK K
                      refine wpAnyH_ready (rs := [21]) (by kernel_rfl) (by simp) (AllReadyH.cons rfl (fun K hK => ?_) AllReadyH.nil)
                      go_simp
                      have KN := line_any (w.heap.size + 1) (w.heap.size + 1) w8.heap.size 4 bs [rowM wRt [v.entry, v.exit, digitM v.shunt], rowM wPath (stepsL v.path), rowM wFlank (needsL v.flank), rowM wOver v.over] _ (Sheet.fr hsh G) (Nat.le_trans (Nat.le_of_lt hblt) G.size)
                        (by intro j x hj; match j, hj with | 0, hj => (simp at hj; subst hj; exact is4.cell 0) | 1, hj => (simp at hj; subst hj; exact is4.cell 1) | 2, hj => (simp at hj; subst hj; exact is4.cell 2) | 3, hj => (simp at hj; subst hj; exact is4.cell 3)) (by simp) (by simp) (by simp) (by omega) hbs
                      refine KN.mono ?_
                      clear KN
                      rintro e w9 ⟨rfl, h9, f9, k9⟩
                      have isl9 : Is w9 wr.heap.size 43 #[.int .i64 v.entry, .int .i64 v.exit, .slice v.a1 v.path.length v.c1, .slice v.a2 v.flank.length v.c2, .slice v.a3 v.over.length v.c3, .bool v.shunt] := k9 _ _ _ _ (by omega) (by decide) isl
                      have F9 := fr_below F (f9.mono (Nat.le_succ _))
                      have isc9 : Is w9 w.heap.size 30 C.arr := (f9.block _ (Nat.lt_succ_self _)).trans (isc.fr G id)
                      go_simp
                      refine hK.out _ _ (ro_cells isl9) (fun hHeld => ?_)
                      clear hK K isl isl9 F G is4
                      refine wpAnyH_done (by kernel_rfl) ?_ _
                      go_wp2_with fail
                      go_roundw
                      case rel =>
                        refine ⟨k + 1, by omega, by go_num, isc9, ?_, F9⟩
                        rw [HS.out]
                        have e : rtO v = joinM [rowM wRt [v.entry, v.exit, digitM v.shunt], rowM wPath (stepsL v.path), rowM wFlank (needsL v.flank), rowM wOver v.over] ++ [10] := rfl
                        rw [e, ← List.append_assoc]
                        exact h9
                      case measure => simp [intOf]; omega
                    · obtain rfl : k = C.rs.length := by omega
                      rw [List.take_length] at hsh
                      obtain ⟨p0, p1, p2, p3, p4, p5, p6, p7, p8⟩ := conf_cells isc
                      have hbs : (C.l.flatMap secT ++ C.js.flatMap joT ++ C.sg.flatMap sgT ++ C.cr.flatMap crT ++ C.rs.flatMap rtO).length ≤ 17592186044416 := by
                        simp only [List.length_append]
                        omega
                      have hml : (rowM wTm [C.tm.age, C.tm.brake, C.tm.hold, C.tm.budget]).length ≤ 17592186044416 := by
                        have e : (tmT C.tm).length = (rowM wTm [C.tm.age, C.tm.brake, C.tm.hold, C.tm.budget]).length + 1 := by unfold tmT; rw [List.length_append]; rfl
                        omega
                      have hfin : textM C.cf = C.l.flatMap secT ++ C.js.flatMap joT ++ C.sg.flatMap sgT ++ C.cr.flatMap crT ++ C.rs.flatMap rtO ++ joinM [rowM wTm [C.tm.age, C.tm.brake, C.tm.hold, C.tm.budget]] ++ [10] := by
                        rw [HTX.out, rtO_flat]
                        simp only [joinM, tmT, List.append_assoc]
                      have h4 := h64.tm
                      clear HTX hl0 hlen
                      generalize C.l.flatMap secT ++ C.js.flatMap joT ++ C.sg.flatMap sgT ++ C.cr.flatMap crT ++ C.rs.flatMap rtO = bs at *
                      have HF := Lib.hid hfin
                      clear hfin
                      have KR := row_any ⟨#[116, 105, 109, 105, 110, 103]⟩ (A := some ⟨wr.heap.size, 0, none⟩) (c := 4) [C.tm.age, C.tm.brake, C.tm.hold, C.tm.budget] (wr.alloc (.cells #[.int .i64 C.tm.age, .int .i64 C.tm.brake, .int .i64 C.tm.hold, .int .i64 C.tm.budget] 3)) (lit_rd_at (by simp) _ _) (hP.fr (fr.alloc _)) h4 (by decide) (by simp)
                      go_wp2_with fail
                      refine KR.mono ?_
                      clear KR
                      rintro _ w3 ⟨rfl, f3⟩
                      have f4 := (fr_nil (fr.alloc _) f3).alloc (.cells #[.string ⟨(rowM (bytesOf ⟨#[116, 105, 109, 105, 110, 103]⟩) [C.tm.age, C.tm.brake, C.tm.hold, C.tm.budget]).toArray⟩] 9)
                      have g4 := ((Fr.refl (fun _ => False) wr).alloc _).trans (f3.alloc (.cells #[.string ⟨(rowM (bytesOf ⟨#[116, 105, 109, 105, 110, 103]⟩) [C.tm.age, C.tm.brake, C.tm.hold, C.tm.budget]).toArray⟩] 9)) fun _ _ h => h
                      have KN := line_any (w.heap.size + 1) (w.heap.size + 1) w3.heap.size 1 bs [rowM wTm [C.tm.age, C.tm.brake, C.tm.hold, C.tm.budget]] (w3.alloc (.cells #[.string ⟨(rowM (bytesOf ⟨#[116, 105, 109, 105, 110, 103]⟩) [C.tm.age, C.tm.brake, C.tm.hold, C.tm.budget]).toArray⟩] 9)) (Sheet.fr hsh g4) (Nat.le_trans (Nat.le_of_lt (Sheet.lt hsh)) g4.size)
                        (by intro j x hj; match j, hj with | 0, hj => simp at hj; subst hj; exact ((Is.new w3 9 _).cell 0)) (by simp) (by simp) (by simp) (by simpa [joinM] using hml) hbs
                      go_wp2_with fail
                      refine KN.mono ?_
                      clear KN
                      rintro _ w5 ⟨rfl, h5, f5, _⟩
                      have F5 := fr_below f4 (f5.mono (Nat.le_succ _))
                      have KS := str_any _ _ _ _ h5 (by simp)
                      go_wp2_with fail
                      refine KS.mono ?_
                      clear KS
                      rintro _ w6 ⟨rfl, f6⟩
                      go_wp2_with fail
                      go_ret
                      exact ⟨congrArg (fun l : List UInt8 => Ending.returned (.string ⟨l.toArray⟩)) ((List.append_assoc _ _ _).symm.trans HF.out.symm), fr_below F5 (f6.mono (Nat.le_succ _))⟩
end Go.Proofs.YtkkohdmneognlaaGreatDoor

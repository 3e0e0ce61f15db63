/- The document's own Text (under way). -/
import Derived.Test.YtkkohdmneognlaaGreatDoorMar
namespace Go.Proofs.YtkkohdmneognlaaGreatDoor
open Go.RowKit

theorem ownsA_is {w w1 : World} {b n : Nat} {v : Value} {xs : List Value} {t : TypeId} {cs : Array Value} {q : Nat} (h : ownsA w q 5 v n xs) (hg : w.grownBy w1 v.ownBlock) (k : Is w b t cs) (ht : t ≠ 5) : Is w1 b t cs := by
  refine (hg.block b k.lt fun e => ?_).trans k
  rcases h.2 with ⟨hv, _⟩ | ⟨g, cap, cur, fz, hv, _, hb, _⟩
  · rw [hv] at e; cases e
  · rw [hv] at e
    obtain rfl : b = g := by simpa [Value.ownBlock] using e
    have := hb.symm.trans k
    injection this with this
    injection this with _ h2 _
    exact ht h2.symm

def stT (s : St) : List UInt8 := numsM [s.sec, s.inn, s.out]
def ndT (s : Nd) : List UInt8 := numsM [s.sec, s.pos]
theorem stT_flat : ∀ (p : List St), p.flatMap stT = numsM (stepsL p)
  | [] => rfl
  | x :: r => by
    rw [List.flatMap_cons, stT_flat r, stepsL, numsM_append]
    rfl
theorem ndT_flat : ∀ (p : List Nd), p.flatMap ndT = numsM (needsL p)
  | [] => rfl
  | x :: r => by
    rw [List.flatMap_cons, ndT_flat r, needsL, numsM_append]
    rfl
theorem stepsL_mem {p : List St} {s : St} (hs : s ∈ p) (h : In64 (stepsL p)) : In64 [s.sec, s.inn, s.out] := by
  obtain ⟨a, b, rfl⟩ := List.append_of_mem hs
  rw [stepsL_append, stepsL] at h
  intro n hn
  exact h n (List.mem_append_right _ (List.mem_append_left _ hn))
theorem needsL_mem {p : List Nd} {s : Nd} (hs : s ∈ p) (h : In64 (needsL p)) : In64 [s.sec, s.pos] := by
  obtain ⟨a, b, rfl⟩ := List.append_of_mem hs
  rw [needsL_append, needsL] at h
  intro n hn
  exact h n (List.mem_append_right _ (List.mem_append_left _ hn))
theorem ownsA_join {w : World} {q n : Nat} {e : TypeId} {v : Value} {xs ys : List UInt8} (h : ownsA w q e v n (xs.map B ++ ys.map B)) (hn : n = xs.length + ys.length) : ownsA w q e v (xs ++ ys).length ((xs ++ ys).map B) := by
  rw [List.length_append, List.map_append, ← hn]
  exact h
theorem size_mk (l : List UInt8) : (⟨l.toArray⟩ : ByteArray).size = l.length := by simp [ByteArray.size]
/-- the route's line, as the document's Text puts it together -/
theorem rt_parts (bs : List UInt8) (v : Ro) : bs ++ rtO v = bs ++ (rowM wRt [v.entry, v.exit, digitM v.shunt] ++ [32, 112, 97, 116, 104]) ++ v.path.flatMap stT ++ [32, 102, 108, 97, 110, 107] ++ v.flank.flatMap ndT ++ rowM [32, 111, 118, 101, 114, 108, 97, 112] v.over ++ [10] := by
  rw [stT_flat, ndT_flat]
  have e : rtO v = joinM [rowM wRt [v.entry, v.exit, digitM v.shunt], rowM wPath (stepsL v.path), rowM wFlank (needsL v.flank), rowM wOver v.over] ++ [10] := rfl
  rw [e]
  unfold rowM wPath wFlank wOver
  simp only [joinM, List.append_assoc, List.cons_append, List.nil_append]

set_option maxRecDepth 100000 in
set_option maxHeartbeats 16000000 in
theorem rtext_any (C : Cm) (w : World) (h : C.Ok w) (hP : Pow w) (h64 : Cf64 C.cf) (hlen : (textM C.cf).length ≤ 1099511627776) :
    Calls Tryz.prog 11 #[C.val] w fun e w' => e = .returned (.string ⟨(textM C.cf).toArray⟩) ∧ Fr (fun _ => False) w w' := by
  obtain ⟨i0, hi, hz0, hz1, hz2⟩ := Tryz.infoB2
  have htx : textM C.cf = C.l.flatMap secT ++ (C.js.flatMap joT ++ (C.sg.flatMap sgT ++ (C.cr.flatMap crT ++ ((C.rs.map Ro.rt).flatMap rtT ++ tmT C.tm)))) := rfl
  have hl0 := hlen
  rw [htx] at hl0
  rw [rtO_flat] at hl0
  simp only [List.length_append] at hl0
  have isc : Is (w.alloc (.cells C.arr 30)) w.heap.size 30 C.arr := Is.new w _ _
  have hsh : ownsA (w.alloc (.cells C.arr 30)) w.heap.size 5 (.slice none 0 0) 0 [] := ownsA_nil _ _ _
  have fr := (Fr.refl (fun _ => False) w).alloc (.cells C.arr 30)
  have HTX := Lib.hid htx
  have hb1 := h.b1
  have hb2 := h.b2
  have hb3 := h.b3
  have hb4 := h.b4
  have hb5 := h.b5
  clear htx
  unfold Cm.val
  go_enter Tryz.func11, Tryz.ntmps11
  unfold Cm.arr
  go_wp2_with fail
  go_loopw [3, 22] (fun v3 v wr => ∃ k : Nat, k ≤ C.l.length ∧ v = .int .i64 (k : Nat) ∧ Is wr w.heap.size 30 C.arr ∧ ownsA wr w.heap.size 5 v3 ((C.l.take k).flatMap secT).length (((C.l.take k).flatMap secT).map B) ∧ Fr (fun _ => False) w wr) (fun _ i _ => C.l.length - (intOf i).toNat)
  case atStart => exact ⟨0, Nat.zero_le _, rfl, isc, hsh, fr⟩
  case round =>
    clear isc hsh fr
    obtain ⟨k, hk, rfl, isc, hsh, fr⟩ := hrel
    by_cases hlt : k < C.l.length
    · obtain ⟨ga, oa, ha, q0, q1, q2⟩ := rd_sec (h.secs.fr fr fun _ _ => id) hlt
      have hbs : ((C.l.take k).flatMap secT).length ≤ 17592186044416 := by
        have := (flat_le secT C.l).2 k
        try simp only [List.length_append]
        omega
      have hsn : (C.l.take (k + 1)).flatMap secT = ((C.l.take k).flatMap secT) ++ secT C.l[k] := by rw [flat_snoc _ _ _ hlt]; try simp only [List.append_assoc]
      have hv := h64.secs _ (List.getElem_mem hlt)
      have hml : (rowM wSec [C.l[k].kind, C.l[k].oc, C.l[k].line]).length ≤ 17592186044416 := by
        have := (flat_le secT C.l).1 _ (List.getElem_mem hlt)
        have e := secT_len C.l[k]
        omega
      generalize (C.l.take k).flatMap secT = bs at *
      have HS := Lib.hid hsn
      clear hsn
      generalize C.l[k] = v at *
      have KR := words_any wSec (A := some ⟨wr.heap.size + 1, 0, none⟩) (c := 3) [v.kind, v.oc, v.line] ((wr.alloc (.cells #[.int .i64 v.kind, .int .i64 v.oc, .int .i64 v.line] 62)).alloc (.cells #[.int .i64 v.kind, .int .i64 v.oc, .int .i64 v.line] 3)) (lit_rd_at (by simp) _ _) (hP.fr ((fr.alloc _).alloc _)) hv (by decide) (by simp)
      rw [ha]
      have HA := Lib.hid ha
      clear ha
      go_wp2_with fail
      refine KR.mono ?_
      clear KR
      rintro _ w3 ⟨rfl, f3⟩
      have F3 := fr_nil ((fr.alloc _).alloc _) f3
      have g3 := (((Fr.refl (fun _ => False) wr).alloc _).alloc _).trans f3 fun _ _ h => h
      have isc3 := isc.fr g3 id
      have hsh3 := ownsA_fr hsh g3 fun _ _ => id
      have hrz : (⟨(rowM wSec [v.kind, v.oc, v.line]).toArray⟩ : ByteArray).size = (rowM wSec [v.kind, v.oc, v.line]).length := by simp [ByteArray.size]
      have hsz3 := F3.size
      clear hsh isc fr f3 g3
      go_wp2_with (at_builtin; refine wpList_appendA_string _ rfl _ _ 72 9 rfl i0 Tryz.underlying72 Tryz.underlying9 hi hz0 hz1 hz2 rfl hsh3 ⟨(rowM wSec [v.kind, v.oc, v.line]).toArray⟩ rfl (by rw [hrz]; unfold maxLen; omega) (by rw [hrz]; omega) hsz3 ?_)
      intro v4 w4 h4 hg4
      have F4 := ownsA_step F3 hsh3 hg4
      have isc4 := ownsA_is hsh3 hg4 isc3 (by decide)
      try rw [hrz] at h4
      rw [bytesOf_mk (rowM wSec [v.kind, v.oc, v.line])] at h4
      have h4a := ownsA_fr h4 ((Fr.refl (fun _ => False) w4).alloc (.cells #[.int .u8 10] 5)) fun _ _ => id
      have hsz4 := F4.size
      clear h4 hg4 hsh3 F3
      go_wp2_with (at_builtin; refine wpList_appendA _ rfl _ _ 72 rfl i0 (.int .u8 0) 1 Tryz.underlying72 hi hz0 hz1 hz2 rfl rfl h4a ⟨w4.heap.size, 0, none⟩ 1 1 [Value.int .u8 10] rfl rfl (by intro j u' hj; match j, hj with | 0, hj => simp at hj; subst hj; simp [Addr.add]) (by intro u' hu'; simp at hu'; subst hu'; rfl) (by unfold maxLen; omega) (by omega) (by simp; omega) ?_)
      intro v5 w5 h5 hg5
      have F5 := ownsA_step (F4.alloc _) h4a hg5
      have isc5 := ownsA_is h4a hg5 (isc4.alloc _) (by decide)
      clear hg5 h4a
      go_wp2_with fail
      go_roundw
      case rel =>
        refine ⟨k + 1, by omega, by go_num, isc5, ?_, F5⟩
        rw [HS.out]
        have e : secT v = rowM wSec [v.kind, v.oc, v.line] ++ [10] := rfl
        have e1 : (bs ++ secT v).length = bs.length + (rowM wSec [v.kind, v.oc, v.line]).length + 1 := by rw [e]; simp; omega
        have e2 : (bs ++ secT v).map B = bs.map B ++ ((rowM wSec [v.kind, v.oc, v.line]).map B ++ [Value.int .u8 10]) := by rw [e]; simp [B]
        rw [e1, e2]
        exact h5
      case measure => simp [intOf]; omega
    · obtain rfl : k = C.l.length := by omega
      rw [List.take_length] at hsh
      obtain ⟨p0, p1, p2, p3, p4, p5, p6, p7, p8⟩ := conf_cells isc
      go_wp2_with fail
      go_loopw [3, 42] (fun v3 v wr => ∃ k : Nat, k ≤ C.js.length ∧ v = .int .i64 (k : Nat) ∧ Is wr w.heap.size 30 C.arr ∧ ownsA wr w.heap.size 5 v3 (C.l.flatMap secT ++ (C.js.take k).flatMap joT).length ((C.l.flatMap secT ++ (C.js.take k).flatMap joT).map B) ∧ Fr (fun _ => False) w wr) (fun _ i _ => C.js.length - (intOf i).toNat)
      case atStart => exact ⟨0, Nat.zero_le _, rfl, isc, by simpa only [List.take_zero, List.flatMap_nil, List.append_nil] using hsh, fr⟩
      case round =>
        clear isc hsh fr
        obtain ⟨k, hk, rfl, isc, hsh, fr⟩ := hrel
        by_cases hlt : k < C.js.length
        · obtain ⟨ga, oa, ha, q0, q1, q2, q3⟩ := rd_jo (h.jos.fr fr fun _ _ => id) hlt
          have hbs : (C.l.flatMap secT ++ (C.js.take k).flatMap joT).length ≤ 17592186044416 := by
            have := (flat_le joT C.js).2 k
            try simp only [List.length_append]
            omega
          have hsn : C.l.flatMap secT ++ (C.js.take (k + 1)).flatMap joT = (C.l.flatMap secT ++ (C.js.take k).flatMap joT) ++ joT C.js[k] := by rw [flat_snoc _ _ _ hlt]; try simp only [List.append_assoc]
          have hv := h64.jos _ (List.getElem_mem hlt)
          have hml : (rowM wJo [C.js[k].a, C.js[k].ae, C.js[k].b, C.js[k].be]).length ≤ 17592186044416 := by
            have := (flat_le joT C.js).1 _ (List.getElem_mem hlt)
            have e := joT_len C.js[k]
            omega
          generalize C.l.flatMap secT ++ (C.js.take k).flatMap joT = bs at *
          have HS := Lib.hid hsn
          clear hsn
          generalize C.js[k] = v at *
          have KR := words_any wJo (A := some ⟨wr.heap.size + 1, 0, none⟩) (c := 4) [v.a, v.ae, v.b, v.be] ((wr.alloc (.cells #[.int .i64 v.a, .int .i64 v.ae, .int .i64 v.b, .int .i64 v.be] 69)).alloc (.cells #[.int .i64 v.a, .int .i64 v.ae, .int .i64 v.b, .int .i64 v.be] 3)) (lit_rd_at (by simp) _ _) (hP.fr ((fr.alloc _).alloc _)) hv (by decide) (by simp)
          rw [ha]
          have HA := Lib.hid ha
          clear ha
          go_wp2_with fail
          refine KR.mono ?_
          clear KR
          rintro _ w3 ⟨rfl, f3⟩
          have F3 := fr_nil ((fr.alloc _).alloc _) f3
          have g3 := (((Fr.refl (fun _ => False) wr).alloc _).alloc _).trans f3 fun _ _ h => h
          have isc3 := isc.fr g3 id
          have hsh3 := ownsA_fr hsh g3 fun _ _ => id
          have hrz : (⟨(rowM wJo [v.a, v.ae, v.b, v.be]).toArray⟩ : ByteArray).size = (rowM wJo [v.a, v.ae, v.b, v.be]).length := by simp [ByteArray.size]
          have hsz3 := F3.size
          clear hsh isc fr f3 g3
          go_wp2_with (at_builtin; refine wpList_appendA_string _ rfl _ _ 72 9 rfl i0 Tryz.underlying72 Tryz.underlying9 hi hz0 hz1 hz2 rfl hsh3 ⟨(rowM wJo [v.a, v.ae, v.b, v.be]).toArray⟩ rfl (by rw [hrz]; unfold maxLen; omega) (by rw [hrz]; omega) hsz3 ?_)
          intro v4 w4 h4 hg4
          have F4 := ownsA_step F3 hsh3 hg4
          have isc4 := ownsA_is hsh3 hg4 isc3 (by decide)
          try rw [hrz] at h4
          rw [bytesOf_mk (rowM wJo [v.a, v.ae, v.b, v.be])] at h4
          have h4a := ownsA_fr h4 ((Fr.refl (fun _ => False) w4).alloc (.cells #[.int .u8 10] 5)) fun _ _ => id
          have hsz4 := F4.size
          clear h4 hg4 hsh3 F3
          go_wp2_with (at_builtin; refine wpList_appendA _ rfl _ _ 72 rfl i0 (.int .u8 0) 1 Tryz.underlying72 hi hz0 hz1 hz2 rfl rfl h4a ⟨w4.heap.size, 0, none⟩ 1 1 [Value.int .u8 10] rfl rfl (by intro j u' hj; match j, hj with | 0, hj => simp at hj; subst hj; simp [Addr.add]) (by intro u' hu'; simp at hu'; subst hu'; rfl) (by unfold maxLen; omega) (by omega) (by simp; omega) ?_)
          intro v5 w5 h5 hg5
          have F5 := ownsA_step (F4.alloc _) h4a hg5
          have isc5 := ownsA_is h4a hg5 (isc4.alloc _) (by decide)
          clear hg5 h4a
          go_wp2_with fail
          go_roundw
          case rel =>
            refine ⟨k + 1, by omega, by go_num, isc5, ?_, F5⟩
            rw [HS.out]
            have e : joT v = rowM wJo [v.a, v.ae, v.b, v.be] ++ [10] := rfl
            have e1 : (bs ++ joT v).length = bs.length + (rowM wJo [v.a, v.ae, v.b, v.be]).length + 1 := by rw [e]; simp; omega
            have e2 : (bs ++ joT v).map B = bs.map B ++ ((rowM wJo [v.a, v.ae, v.b, v.be]).map B ++ [Value.int .u8 10]) := by rw [e]; simp [B]
            rw [e1, e2]
            exact h5
          case measure => simp [intOf]; omega
        · obtain rfl : k = C.js.length := by omega
          rw [List.take_length] at hsh
          obtain ⟨p0, p1, p2, p3, p4, p5, p6, p7, p8⟩ := conf_cells isc
          go_wp2_with fail
          go_loopw [3, 64] (fun v3 v wr => ∃ k : Nat, k ≤ C.sg.length ∧ v = .int .i64 (k : Nat) ∧ Is wr w.heap.size 30 C.arr ∧ ownsA wr w.heap.size 5 v3 (C.l.flatMap secT ++ C.js.flatMap joT ++ (C.sg.take k).flatMap sgT).length ((C.l.flatMap secT ++ C.js.flatMap joT ++ (C.sg.take k).flatMap sgT).map B) ∧ Fr (fun _ => False) w wr) (fun _ i _ => C.sg.length - (intOf i).toNat)
          case atStart => exact ⟨0, Nat.zero_le _, rfl, isc, by simpa only [List.take_zero, List.flatMap_nil, List.append_nil] using hsh, fr⟩
          case round =>
            clear isc hsh fr
            obtain ⟨k, hk, rfl, isc, hsh, fr⟩ := hrel
            by_cases hlt : k < C.sg.length
            · obtain ⟨ga, oa, ha, q0, q1⟩ := rd_sg (h.sigs.fr fr fun _ _ => id) hlt
              have hbs : (C.l.flatMap secT ++ C.js.flatMap joT ++ (C.sg.take k).flatMap sgT).length ≤ 17592186044416 := by
                have := (flat_le sgT C.sg).2 k
                try simp only [List.length_append]
                omega
              have hsn : C.l.flatMap secT ++ C.js.flatMap joT ++ (C.sg.take (k + 1)).flatMap sgT = (C.l.flatMap secT ++ C.js.flatMap joT ++ (C.sg.take k).flatMap sgT) ++ sgT C.sg[k] := by rw [flat_snoc _ _ _ hlt]; try simp only [List.append_assoc]
              have hv := h64.sigs _ (List.getElem_mem hlt)
              have hml : (rowM wSg [C.sg[k].sec, C.sg[k].fin]).length ≤ 17592186044416 := by
                have := (flat_le sgT C.sg).1 _ (List.getElem_mem hlt)
                have e := sgT_len C.sg[k]
                omega
              generalize C.l.flatMap secT ++ C.js.flatMap joT ++ (C.sg.take k).flatMap sgT = bs at *
              have HS := Lib.hid hsn
              clear hsn
              generalize C.sg[k] = v at *
              have KR := words_any wSg (A := some ⟨wr.heap.size + 1, 0, none⟩) (c := 2) [v.sec, v.fin] ((wr.alloc (.cells #[.int .i64 v.sec, .int .i64 v.fin] 56)).alloc (.cells #[.int .i64 v.sec, .int .i64 v.fin] 3)) (lit_rd_at (by simp) _ _) (hP.fr ((fr.alloc _).alloc _)) hv (by decide) (by simp)
              rw [ha]
              have HA := Lib.hid ha
              clear ha
              go_wp2_with fail
              refine KR.mono ?_
              clear KR
              rintro _ w3 ⟨rfl, f3⟩
              have F3 := fr_nil ((fr.alloc _).alloc _) f3
              have g3 := (((Fr.refl (fun _ => False) wr).alloc _).alloc _).trans f3 fun _ _ h => h
              have isc3 := isc.fr g3 id
              have hsh3 := ownsA_fr hsh g3 fun _ _ => id
              have hrz : (⟨(rowM wSg [v.sec, v.fin]).toArray⟩ : ByteArray).size = (rowM wSg [v.sec, v.fin]).length := by simp [ByteArray.size]
              have hsz3 := F3.size
              clear hsh isc fr f3 g3
              go_wp2_with (at_builtin; refine wpList_appendA_string _ rfl _ _ 72 9 rfl i0 Tryz.underlying72 Tryz.underlying9 hi hz0 hz1 hz2 rfl hsh3 ⟨(rowM wSg [v.sec, v.fin]).toArray⟩ rfl (by rw [hrz]; unfold maxLen; omega) (by rw [hrz]; omega) hsz3 ?_)
              intro v4 w4 h4 hg4
              have F4 := ownsA_step F3 hsh3 hg4
              have isc4 := ownsA_is hsh3 hg4 isc3 (by decide)
              try rw [hrz] at h4
              rw [bytesOf_mk (rowM wSg [v.sec, v.fin])] at h4
              have h4a := ownsA_fr h4 ((Fr.refl (fun _ => False) w4).alloc (.cells #[.int .u8 10] 5)) fun _ _ => id
              have hsz4 := F4.size
              clear h4 hg4 hsh3 F3
              go_wp2_with (at_builtin; refine wpList_appendA _ rfl _ _ 72 rfl i0 (.int .u8 0) 1 Tryz.underlying72 hi hz0 hz1 hz2 rfl rfl h4a ⟨w4.heap.size, 0, none⟩ 1 1 [Value.int .u8 10] rfl rfl (by intro j u' hj; match j, hj with | 0, hj => simp at hj; subst hj; simp [Addr.add]) (by intro u' hu'; simp at hu'; subst hu'; rfl) (by unfold maxLen; omega) (by omega) (by simp; omega) ?_)
              intro v5 w5 h5 hg5
              have F5 := ownsA_step (F4.alloc _) h4a hg5
              have isc5 := ownsA_is h4a hg5 (isc4.alloc _) (by decide)
              clear hg5 h4a
              go_wp2_with fail
              go_roundw
              case rel =>
                refine ⟨k + 1, by omega, by go_num, isc5, ?_, F5⟩
                rw [HS.out]
                have e : sgT v = rowM wSg [v.sec, v.fin] ++ [10] := rfl
                have e1 : (bs ++ sgT v).length = bs.length + (rowM wSg [v.sec, v.fin]).length + 1 := by rw [e]; simp; omega
                have e2 : (bs ++ sgT v).map B = bs.map B ++ ((rowM wSg [v.sec, v.fin]).map B ++ [Value.int .u8 10]) := by rw [e]; simp [B]
                rw [e1, e2]
                exact h5
              case measure => simp [intOf]; omega
            · obtain rfl : k = C.sg.length := by omega
              rw [List.take_length] at hsh
              obtain ⟨p0, p1, p2, p3, p4, p5, p6, p7, p8⟩ := conf_cells isc
              go_wp2_with fail
              go_loopw [3, 82] (fun v3 v wr => ∃ k : Nat, k ≤ C.cr.length ∧ v = .int .i64 (k : Nat) ∧ Is wr w.heap.size 30 C.arr ∧ ownsA wr w.heap.size 5 v3 (C.l.flatMap secT ++ C.js.flatMap joT ++ C.sg.flatMap sgT ++ (C.cr.take k).flatMap crT).length ((C.l.flatMap secT ++ C.js.flatMap joT ++ C.sg.flatMap sgT ++ (C.cr.take k).flatMap crT).map B) ∧ Fr (fun _ => False) w wr) (fun _ i _ => C.cr.length - (intOf i).toNat)
              case atStart => exact ⟨0, Nat.zero_le _, rfl, isc, by simpa only [List.take_zero, List.flatMap_nil, List.append_nil] using hsh, fr⟩
              case round =>
                clear isc hsh fr
                obtain ⟨k, hk, rfl, isc, hsh, fr⟩ := hrel
                by_cases hlt : k < C.cr.length
                · obtain ⟨ga, oa, ha, q0⟩ := rd_int (h.crs.fr fr fun _ _ => id) hlt
                  have hbs : (C.l.flatMap secT ++ C.js.flatMap joT ++ C.sg.flatMap sgT ++ (C.cr.take k).flatMap crT).length ≤ 17592186044416 := by
                    have := (flat_le crT C.cr).2 k
                    try simp only [List.length_append]
                    omega
                  have hsn : C.l.flatMap secT ++ C.js.flatMap joT ++ C.sg.flatMap sgT ++ (C.cr.take (k + 1)).flatMap crT = (C.l.flatMap secT ++ C.js.flatMap joT ++ C.sg.flatMap sgT ++ (C.cr.take k).flatMap crT) ++ crT C.cr[k] := by rw [flat_snoc _ _ _ hlt]; try simp only [List.append_assoc]
                  have hv := h64.crs _ (List.getElem_mem hlt)
                  have hml : (rowM wCr [C.cr[k]]).length ≤ 17592186044416 := by
                    have := (flat_le crT C.cr).1 _ (List.getElem_mem hlt)
                    have e := crT_len C.cr[k]
                    omega
                  generalize C.l.flatMap secT ++ C.js.flatMap joT ++ C.sg.flatMap sgT ++ (C.cr.take k).flatMap crT = bs at *
                  have HS := Lib.hid hsn
                  clear hsn
                  generalize C.cr[k] = v at *
                  have KR := words_any wCr (A := some ⟨wr.heap.size, 0, none⟩) (c := 1) [v] ((wr).alloc (.cells #[.int .i64 v] 3)) (lit_rd_at (by simp) _ _) (hP.fr ((fr).alloc _)) (fun x hx => by rw [List.mem_singleton.1 hx]; exact hv) (by decide) (by simp)
                  rw [ha]
                  have HA := Lib.hid ha
                  clear ha
                  go_wp2_with fail
                  refine KR.mono ?_
                  clear KR
                  rintro _ w3 ⟨rfl, f3⟩
                  have F3 := fr_nil ((fr).alloc _) f3
                  have g3 := ((Fr.refl (fun _ => False) wr).alloc _).trans f3 fun _ _ h => h
                  have isc3 := isc.fr g3 id
                  have hsh3 := ownsA_fr hsh g3 fun _ _ => id
                  have hrz : (⟨(rowM wCr [v]).toArray⟩ : ByteArray).size = (rowM wCr [v]).length := by simp [ByteArray.size]
                  have hsz3 := F3.size
                  clear hsh isc fr f3 g3
                  go_wp2_with (at_builtin; refine wpList_appendA_string _ rfl _ _ 72 9 rfl i0 Tryz.underlying72 Tryz.underlying9 hi hz0 hz1 hz2 rfl hsh3 ⟨(rowM wCr [v]).toArray⟩ rfl (by rw [hrz]; unfold maxLen; omega) (by rw [hrz]; omega) hsz3 ?_)
                  intro v4 w4 h4 hg4
                  have F4 := ownsA_step F3 hsh3 hg4
                  have isc4 := ownsA_is hsh3 hg4 isc3 (by decide)
                  try rw [hrz] at h4
                  rw [bytesOf_mk (rowM wCr [v])] at h4
                  have h4a := ownsA_fr h4 ((Fr.refl (fun _ => False) w4).alloc (.cells #[.int .u8 10] 5)) fun _ _ => id
                  have hsz4 := F4.size
                  clear h4 hg4 hsh3 F3
                  go_wp2_with (at_builtin; refine wpList_appendA _ rfl _ _ 72 rfl i0 (.int .u8 0) 1 Tryz.underlying72 hi hz0 hz1 hz2 rfl rfl h4a ⟨w4.heap.size, 0, none⟩ 1 1 [Value.int .u8 10] rfl rfl (by intro j u' hj; match j, hj with | 0, hj => simp at hj; subst hj; simp [Addr.add]) (by intro u' hu'; simp at hu'; subst hu'; rfl) (by unfold maxLen; omega) (by omega) (by simp; omega) ?_)
                  intro v5 w5 h5 hg5
                  have F5 := ownsA_step (F4.alloc _) h4a hg5
                  have isc5 := ownsA_is h4a hg5 (isc4.alloc _) (by decide)
                  clear hg5 h4a
                  go_wp2_with fail
                  go_roundw
                  case rel =>
                    refine ⟨k + 1, by omega, by go_num, isc5, ?_, F5⟩
                    rw [HS.out]
                    have e : crT v = rowM wCr [v] ++ [10] := rfl
                    have e1 : (bs ++ crT v).length = bs.length + (rowM wCr [v]).length + 1 := by rw [e]; simp; omega
                    have e2 : (bs ++ crT v).map B = bs.map B ++ ((rowM wCr [v]).map B ++ [Value.int .u8 10]) := by rw [e]; simp [B]
                    rw [e1, e2]
                    exact h5
                  case measure => simp [intOf]; omega
                · obtain rfl : k = C.cr.length := by omega
                  rw [List.take_length] at hsh
                  obtain ⟨p0, p1, p2, p3, p4, p5, p6, p7, p8⟩ := conf_cells isc
                  go_wp2_with fail
                  go_loopw [3, 97] (fun v3 v wr => ∃ k : Nat, k ≤ C.rs.length ∧ v = .int .i64 (k : Nat) ∧ Is wr w.heap.size 30 C.arr ∧ ownsA wr w.heap.size 5 v3 (C.l.flatMap secT ++ C.js.flatMap joT ++ C.sg.flatMap sgT ++ C.cr.flatMap crT ++ (C.rs.take k).flatMap rtO).length ((C.l.flatMap secT ++ C.js.flatMap joT ++ C.sg.flatMap sgT ++ C.cr.flatMap crT ++ (C.rs.take k).flatMap rtO).map B) ∧ Fr (fun _ => False) w wr) (fun _ i _ => C.rs.length - (intOf i).toNat)
                  case atStart => exact ⟨0, Nat.zero_le _, rfl, isc, by simpa only [List.take_zero, List.flatMap_nil, List.append_nil] using hsh, fr⟩
                  case round =>
                    clear isc hsh fr
                    obtain ⟨k, hk, rfl, isc, hsh, fr⟩ := hrel
                    by_cases hlt : k < C.rs.length
                    · obtain ⟨wz, rfl⟩ : ∃ wz, wz = wr := ⟨_, rfl⟩
                      obtain ⟨ga, oa, ha, q0, q1, q2, q3, q4, q5⟩ := rd_ro (h.rts.fr fr fun _ _ => id) hlt
                      have hsn : C.l.flatMap secT ++ C.js.flatMap joT ++ C.sg.flatMap sgT ++ C.cr.flatMap crT ++ (C.rs.take (k + 1)).flatMap rtO = (C.l.flatMap secT ++ C.js.flatMap joT ++ C.sg.flatMap sgT ++ C.cr.flatMap crT ++ (C.rs.take k).flatMap rtO) ++ rtO C.rs[k] := by rw [flat_snoc _ _ _ hlt]; try simp only [List.append_assoc]
                      have hbs : (C.l.flatMap secT ++ C.js.flatMap joT ++ C.sg.flatMap sgT ++ C.cr.flatMap crT ++ (C.rs.take k).flatMap rtO).length ≤ 1099511627776 := by
                        have := (flat_le rtO C.rs).2 k
                        try simp only [List.length_append]
                        omega
                      have hrt : (rtO C.rs[k]).length ≤ 1099511627776 := by
                        have := (flat_le rtO C.rs).1 _ (List.getElem_mem hlt)
                        omega
                      obtain ⟨v1, v2, v3, v4⟩ := h64.rts C.rs[k].rt (List.mem_map_of_mem (List.getElem_mem hlt))
                      have hok := h.each _ (List.getElem_mem hlt)
                      generalize C.l.flatMap secT ++ C.js.flatMap joT ++ C.sg.flatMap sgT ++ C.cr.flatMap crT ++ (C.rs.take k).flatMap rtO = bs at *
                      have HS := Lib.hid hsn
                      clear hsn
                      generalize C.rs[k] = v at *
                      have hp := rt_parts bs v
                      have hT : (bs ++ rtO v).length ≤ 2199023255552 := by rw [List.length_append]; omega
                      rw [hp] at hT
                      clear hrt
                      have ok1 := hok.b1
                      have ok2 := hok.b2
                      have ok3 := hok.b3
                      have HP := Lib.hid hp
                      clear hp
                      rw [ha]
                      have HA := Lib.hid ha
                      clear ha
                      have v1 : In64 [v.entry, v.exit] := v1
                      have v2 : In64 (stepsL v.path) := v2
                      have v3 : In64 (needsL v.flank) := v3
                      have hv4 : In64 v.over := v4
                      generalize v.shunt = sh at *
                      cases sh
                      · have isr0 : Is (wz.alloc (.cells #[.int .i64 v.entry, .int .i64 v.exit, .slice v.a1 v.path.length v.c1, .slice v.a2 v.flank.length v.c2, .slice v.a3 v.over.length v.c3, .bool false] 43)) wz.heap.size 43 #[.int .i64 v.entry, .int .i64 v.exit, .slice v.a1 v.path.length v.c1, .slice v.a2 v.flank.length v.c2, .slice v.a3 v.over.length v.c3, .bool false] := Is.new wz _ _
                        have isc0 := isc.alloc (.cells #[.int .i64 v.entry, .int .i64 v.exit, .slice v.a1 v.path.length v.c1, .slice v.a2 v.flank.length v.c2, .slice v.a3 v.over.length v.c3, .bool false] 43)
                        have hsh0 := ownsA_fr hsh ((Fr.refl (fun _ => False) wz).alloc (.cells #[.int .i64 v.entry, .int .i64 v.exit, .slice v.a1 v.path.length v.c1, .slice v.a2 v.flank.length v.c2, .slice v.a3 v.over.length v.c3, .bool false] 43)) fun _ _ => id
                        have F0 := fr.alloc (.cells #[.int .i64 v.entry, .int .i64 v.exit, .slice v.a1 v.path.length v.c1, .slice v.a2 v.flank.length v.c2, .slice v.a3 v.over.length v.c3, .bool false] 43)
                        have e3 : In64 [v.entry, v.exit, 0] := by
                          intro x hx
                          simp only [List.mem_cons, List.not_mem_nil, or_false] at hx
                          rcases hx with rfl | rfl | rfl
                          · exact v1 _ (by simp)
                          · exact v1 _ (by simp)
                          · omega
                        have KR := words_any wRt (A := some ⟨wz.heap.size + 1, 0, none⟩) (c := 3) [v.entry, v.exit, 0] ((wz.alloc (.cells #[.int .i64 v.entry, .int .i64 v.exit, .slice v.a1 v.path.length v.c1, .slice v.a2 v.flank.length v.c2, .slice v.a3 v.over.length v.c3, .bool false] 43)).alloc (.cells #[.int .i64 v.entry, .int .i64 v.exit, .int .i64 0] 3)) (lit_rd_at (by simp) _ _) (hP.fr (F0.alloc _)) e3 (by decide) (by simp)
                        have hrl : (rowM wRt [v.entry, v.exit, 0]).length ≤ 4398046511104 := by
                          have e : digitM false = 0 := rfl
                          rw [e] at hT
                          simp only [List.length_append] at hT
                          omega
                        have hol : v.over.length ≤ 2199023255552 := by
                          simp only [List.length_append] at hT
                          exact numsM_len2 (wd := [32, 111, 118, 101, 114, 108, 97, 112]) (by omega)
                        have hrz : ((⟨(rowM wRt [v.entry, v.exit, 0]).toArray⟩ : ByteArray) ++ (⟨#[32, 112, 97, 116, 104]⟩ : ByteArray)).size = (rowM wRt [v.entry, v.exit, 0]).length + 5 := by rw [ByteArray.size_append, size_mk]; rfl
                        have hrb : bytesOf ((⟨(rowM wRt [v.entry, v.exit, 0]).toArray⟩ : ByteArray) ++ (⟨#[32, 112, 97, 116, 104]⟩ : ByteArray)) = rowM wRt [v.entry, v.exit, 0] ++ [32, 112, 97, 116, 104] := by rw [bytesOf_append, bytesOf_mk]; rfl
                        go_wp2_with fail
                        refine KR.mono ?_
                        clear KR
                        rintro _ w3 ⟨rfl, f3⟩
                        have F3 := fr_nil (F0.alloc _) f3
                        have g3 := ((Fr.refl (fun _ => False) (wz.alloc (.cells #[.int .i64 v.entry, .int .i64 v.exit, .slice v.a1 v.path.length v.c1, .slice v.a2 v.flank.length v.c2, .slice v.a3 v.over.length v.c3, .bool false] 43))).alloc _).trans f3 fun _ _ h => h
                        have isc3 := isc0.fr g3 id
                        have isr3 := isr0.fr g3 id
                        have hsh3 := ownsA_fr hsh0 g3 fun _ _ => id
                        have hsz3 := F3.size
                        clear hsh0 isc0 isr0 F0 f3 g3 isc fr hsh
                        have hadd : (⟨(rowM wRt [v.entry, v.exit, 0]).toArray⟩ : ByteArray).size ≤ 4398046511104 := by rw [size_mk]; exact hrl
                        go_wp2_with (at_builtin; refine wpList_appendA_string _ rfl _ _ 72 9 rfl i0 Tryz.underlying72 Tryz.underlying9 hi hz0 hz1 hz2 rfl hsh3 _ rfl ?_ ?_ hsz3 ?_)
                        case refine_1 => rw [hrz]; unfold maxLen; omega
                        case refine_2 => rw [hrz]; omega
                        intro v4 w4 h4 hg4
                        have fr := ownsA_step F3 hsh3 hg4
                        have isc := ownsA_is hsh3 hg4 isc3 (by decide)
                        have isr := ownsA_is hsh3 hg4 isr3 (by decide)
                        try rw [hrz] at h4
                        try rw [hrb] at h4
                        have hsh := ownsA_join (xs := bs) (ys := rowM wRt [v.entry, v.exit, 0] ++ [32, 112, 97, 116, 104]) (by simpa only [List.map_append, List.map_cons, List.map_nil] using h4) (by rw [List.length_append]; rfl)
                        clear h4 hg4 hsh3 F3 isc3 isr3 hrz hrb hadd
                        have eP : bs ++ (rowM wRt [v.entry, v.exit, digitM false] ++ [32, 112, 97, 116, 104]) = bs ++ (rowM wRt [v.entry, v.exit, 0] ++ [32, 112, 97, 116, 104]) := rfl
                        rw [eP] at hT HP
                        clear eP
                        generalize hbz : wz.heap.size = b at *
                        clear hbz
                        have hP1 : (bs ++ (rowM wRt [v.entry, v.exit, 0] ++ [32, 112, 97, 116, 104])).length + (v.path.flatMap stT).length + (v.flank.flatMap ndT).length + (rowM [32, 111, 118, 101, 114, 108, 97, 112] v.over).length ≤ 4398046511104 := by
                          simp only [List.length_append, List.length_cons, List.length_nil] at hT ⊢
                          omega
                        clear hT hrl hbs
                        generalize bs ++ (rowM wRt [v.entry, v.exit, 0] ++ [32, 112, 97, 116, 104]) = P1 at *
                        have qa := isr.cell 2
                        go_wp2_with fail
                        clear qa
                        go_loopw [3, 116] (fun v3 vi wr => ∃ m : Nat, m ≤ v.path.length ∧ vi = .int .i64 (m : Nat) ∧ Is wr w.heap.size 30 C.arr ∧ Is wr b 43 #[.int .i64 v.entry, .int .i64 v.exit, .slice v.a1 v.path.length v.c1, .slice v.a2 v.flank.length v.c2, .slice v.a3 v.over.length v.c3, .bool false] ∧ ownsA wr w.heap.size 5 v3 (P1 ++ (v.path.take m).flatMap stT).length ((P1 ++ (v.path.take m).flatMap stT).map B) ∧ Fr (fun _ => False) w wr) (fun _ i _ => v.path.length - (intOf i).toNat)
                        case atStart => exact ⟨0, Nat.zero_le _, rfl, isc, isr, by simpa only [List.take_zero, List.flatMap_nil, List.append_nil] using hsh, fr⟩
                        case round =>
                          clear isc isr hsh fr
                          obtain ⟨m, hm, rfl, isc, isr, hsh, fr⟩ := hrel
                          by_cases hmt : m < v.path.length
                          · obtain ⟨ga, oa, ha, q0, q1, q2⟩ := rd_st (hok.path.fr fr fun _ _ => id) hmt
                            have hbm := (flat_le stT v.path).2 m
                            have hb1 := (flat_le stT v.path).1 _ (List.getElem_mem hmt)
                            have hsn : P1 ++ (v.path.take (m + 1)).flatMap stT = (P1 ++ (v.path.take m).flatMap stT) ++ stT v.path[m] := by rw [flat_snoc _ _ _ hmt]; try simp only [List.append_assoc]
                            have hv := stepsL_mem (List.getElem_mem hmt) v2
                            have hPl : (P1 ++ (v.path.take m).flatMap stT).length ≤ 8796093022208 := by rw [List.length_append]; omega
                            have hTl : (stT v.path[m]).length ≤ 8796093022208 := by omega
                            generalize P1 ++ (v.path.take m).flatMap stT = xs at *
                            have HS2 := Lib.hid hsn
                            clear hsn hbm hb1
                            generalize v.path[m] = u at *
                            have eT : stT u = rowM [] [u.sec, u.inn, u.out] := rfl
                            rw [eT] at hTl
                            have KR := words_any [] (A := some ⟨wr.heap.size + 1, 0, none⟩) (c := 3) [u.sec, u.inn, u.out] ((wr.alloc (.cells #[.int .i64 u.sec, .int .i64 u.inn, .int .i64 u.out] 45)).alloc (.cells #[.int .i64 u.sec, .int .i64 u.inn, .int .i64 u.out] 3)) (lit_rd_at (by simp) _ _) (hP.fr ((fr.alloc _).alloc _)) hv (by decide) (by simp)
                            rw [ha]
                            have HA2 := Lib.hid ha
                            clear ha
                            go_wp2_with fail
                            refine KR.mono ?_
                            clear KR
                            rintro _ w3 ⟨rfl, f3⟩
                            have F3 := fr_nil ((fr.alloc _).alloc _) f3
                            have g3 := (((Fr.refl (fun _ => False) wr).alloc _).alloc _).trans f3 fun _ _ h => h
                            have isc3 := isc.fr g3 id
                            have isr3 := isr.fr g3 id
                            have hsh3 := ownsA_fr hsh g3 fun _ _ => id
                            have hrz : (⟨(rowM [] [u.sec, u.inn, u.out]).toArray⟩ : ByteArray).size = (rowM [] [u.sec, u.inn, u.out]).length := size_mk _
                            have hsz3 := F3.size
                            clear hsh isc isr fr f3 g3
                            go_wp2_with (at_builtin; refine wpList_appendA_string _ rfl _ _ 72 9 rfl i0 Tryz.underlying72 Tryz.underlying9 hi hz0 hz1 hz2 rfl hsh3 ⟨(rowM [] [u.sec, u.inn, u.out]).toArray⟩ rfl (by rw [hrz]; unfold maxLen; omega) (by rw [hrz]; omega) hsz3 ?_)
                            intro v4 w4 h4 hg4
                            have F4 := ownsA_step F3 hsh3 hg4
                            have isc4 := ownsA_is hsh3 hg4 isc3 (by decide)
                            have isr4 := ownsA_is hsh3 hg4 isr3 (by decide)
                            try rw [hrz] at h4
                            rw [bytesOf_mk (rowM [] [u.sec, u.inn, u.out])] at h4
                            have h5 := ownsA_join h4 rfl
                            clear h4 hg4 hsh3 F3
                            go_wp2_with fail
                            go_roundw
                            case rel => exact ⟨m + 1, by omega, by go_num, isc4, (by rw [HA2.out] at isr4; exact isr4), by rw [HS2.out, eT]; exact h5, F4⟩
                            case measure => simp [intOf]; omega
                          · obtain rfl : m = v.path.length := by omega
                            rw [List.take_length] at hsh
                            have hl1 : (P1 ++ v.path.flatMap stT).length + (v.flank.flatMap ndT).length + (rowM [32, 111, 118, 101, 114, 108, 97, 112] v.over).length ≤ 4398046511104 := by rw [List.length_append]; omega
                            clear hP1
                            generalize P1 ++ v.path.flatMap stT = P2 at *
                            have hsz := fr.size
                            have hrz : ((⟨#[32, 102, 108, 97, 110, 107]⟩ : ByteArray) : ByteArray).size = 6 := rfl
                            go_wp2_with (at_builtin; refine wpList_appendA_string _ rfl _ _ 72 9 rfl i0 Tryz.underlying72 Tryz.underlying9 hi hz0 hz1 hz2 rfl hsh (⟨#[32, 102, 108, 97, 110, 107]⟩ : ByteArray) rfl (by rw [hrz]; unfold maxLen; omega) (by rw [hrz]; omega) hsz ?_)
                            intro v4 w4 h4 hg4
                            have fr4 := ownsA_step fr hsh hg4
                            have isc4 := ownsA_is hsh hg4 isc (by decide)
                            have isr4 := ownsA_is hsh hg4 isr (by decide)
                            have hsh4 := ownsA_join (ys := [32, 102, 108, 97, 110, 107]) h4 rfl
                            clear h4 hg4 hsh isc isr fr hsz hrz
                            have hl2 : (P2 ++ [32, 102, 108, 97, 110, 107]).length + (v.flank.flatMap ndT).length + (rowM [32, 111, 118, 101, 114, 108, 97, 112] v.over).length ≤ 4398046511110 := by rw [List.length_append]; simp only [List.length_cons, List.length_nil]; omega
                            clear hl1
                            generalize P2 ++ [32, 102, 108, 97, 110, 107] = P3 at *
                            have isc := isc4
                            have isr := isr4
                            have hsh := hsh4
                            have fr := fr4
                            clear isc4 isr4 hsh4 fr4
                            obtain ⟨wy, rfl⟩ : ∃ wy, wy = w4 := ⟨_, rfl⟩
                            have qa := isr.cell 3
                            go_wp2_with fail
                            clear qa
                            go_loopw [3, 136] (fun v3 vi wr => ∃ m : Nat, m ≤ v.flank.length ∧ vi = .int .i64 (m : Nat) ∧ Is wr w.heap.size 30 C.arr ∧ Is wr b 43 #[.int .i64 v.entry, .int .i64 v.exit, .slice v.a1 v.path.length v.c1, .slice v.a2 v.flank.length v.c2, .slice v.a3 v.over.length v.c3, .bool false] ∧ ownsA wr w.heap.size 5 v3 (P3 ++ (v.flank.take m).flatMap ndT).length ((P3 ++ (v.flank.take m).flatMap ndT).map B) ∧ Fr (fun _ => False) w wr) (fun _ i _ => v.flank.length - (intOf i).toNat)
                            case atStart => exact ⟨0, Nat.zero_le _, rfl, isc, isr, by simpa only [List.take_zero, List.flatMap_nil, List.append_nil] using hsh, fr⟩
                            case round =>
                              clear isc isr hsh fr
                              obtain ⟨m, hm, rfl, isc, isr, hsh, fr⟩ := hrel
                              by_cases hmt : m < v.flank.length
                              · obtain ⟨ga, oa, ha, q0, q1⟩ := rd_nd (hok.flank.fr fr fun _ _ => id) hmt
                                have hbm := (flat_le ndT v.flank).2 m
                                have hb1 := (flat_le ndT v.flank).1 _ (List.getElem_mem hmt)
                                have hsn : P3 ++ (v.flank.take (m + 1)).flatMap ndT = (P3 ++ (v.flank.take m).flatMap ndT) ++ ndT v.flank[m] := by rw [flat_snoc _ _ _ hmt]; try simp only [List.append_assoc]
                                have hv := needsL_mem (List.getElem_mem hmt) v3
                                have hPl : (P3 ++ (v.flank.take m).flatMap ndT).length ≤ 8796093022208 := by rw [List.length_append]; omega
                                have hTl : (ndT v.flank[m]).length ≤ 8796093022208 := by omega
                                generalize P3 ++ (v.flank.take m).flatMap ndT = xs at *
                                have HS2 := Lib.hid hsn
                                clear hsn hbm hb1
                                generalize v.flank[m] = u at *
                                have eT : ndT u = rowM [] [u.sec, u.pos] := rfl
                                rw [eT] at hTl
                                have KR := words_any [] (A := some ⟨wr.heap.size + 1, 0, none⟩) (c := 2) [u.sec, u.pos] ((wr.alloc (.cells #[.int .i64 u.sec, .int .i64 u.pos] 67)).alloc (.cells #[.int .i64 u.sec, .int .i64 u.pos] 3)) (lit_rd_at (by simp) _ _) (hP.fr ((fr.alloc _).alloc _)) hv (by decide) (by simp)
                                rw [ha]
                                have HA2 := Lib.hid ha
                                clear ha
                                go_wp2_with fail
                                refine KR.mono ?_
                                clear KR
                                rintro _ w3 ⟨rfl, f3⟩
                                have F3 := fr_nil ((fr.alloc _).alloc _) f3
                                have g3 := (((Fr.refl (fun _ => False) wr).alloc _).alloc _).trans f3 fun _ _ h => h
                                have isc3 := isc.fr g3 id
                                have isr3 := isr.fr g3 id
                                have hsh3 := ownsA_fr hsh g3 fun _ _ => id
                                have hrz : (⟨(rowM [] [u.sec, u.pos]).toArray⟩ : ByteArray).size = (rowM [] [u.sec, u.pos]).length := size_mk _
                                have hsz3 := F3.size
                                clear hsh isc isr fr f3 g3
                                go_wp2_with (at_builtin; refine wpList_appendA_string _ rfl _ _ 72 9 rfl i0 Tryz.underlying72 Tryz.underlying9 hi hz0 hz1 hz2 rfl hsh3 ⟨(rowM [] [u.sec, u.pos]).toArray⟩ rfl (by rw [hrz]; unfold maxLen; omega) (by rw [hrz]; omega) hsz3 ?_)
                                intro v4 w4 h4 hg4
                                have F4 := ownsA_step F3 hsh3 hg4
                                have isc4 := ownsA_is hsh3 hg4 isc3 (by decide)
                                have isr4 := ownsA_is hsh3 hg4 isr3 (by decide)
                                try rw [hrz] at h4
                                rw [bytesOf_mk (rowM [] [u.sec, u.pos])] at h4
                                have h5 := ownsA_join h4 rfl
                                clear h4 hg4 hsh3 F3
                                go_wp2_with fail
                                go_roundw
                                case rel => exact ⟨m + 1, by omega, by go_num, isc4, (by rw [HA2.out] at isr4; exact isr4), by rw [HS2.out, eT]; exact h5, F4⟩
                                case measure => simp [intOf]; omega
                              · obtain rfl : m = v.flank.length := by omega
                                rw [List.take_length] at hsh
                                have hl3 : (P3 ++ v.flank.flatMap ndT).length + (rowM [32, 111, 118, 101, 114, 108, 97, 112] v.over).length ≤ 4398046511110 := by rw [List.length_append]; omega
                                clear hl2
                                generalize P3 ++ v.flank.flatMap ndT = P4 at *
                                have qa := isr.cell 4
                                have KR := words_any [32, 111, 118, 101, 114, 108, 97, 112] (A := v.a3) (c := v.c3) v.over wr (hok.over.fr fr fun _ _ => id) (hP.fr fr) hv4 (by decide) hol
                                go_wp2_with fail
                                refine KR.mono ?_
                                clear KR qa
                                rintro _ w3 ⟨rfl, f3⟩
                                have F3 := fr_nil fr f3
                                have isc3 := isc.fr f3 id
                                have hsh3 := ownsA_fr hsh f3 fun _ _ => id
                                have hrz : (⟨(rowM [32, 111, 118, 101, 114, 108, 97, 112] v.over).toArray⟩ : ByteArray).size = (rowM [32, 111, 118, 101, 114, 108, 97, 112] v.over).length := size_mk _
                                have hsz3 := F3.size
                                clear hsh isc isr fr f3
                                go_wp2_with (at_builtin; refine wpList_appendA_string _ rfl _ _ 72 9 rfl i0 Tryz.underlying72 Tryz.underlying9 hi hz0 hz1 hz2 rfl hsh3 ⟨(rowM [32, 111, 118, 101, 114, 108, 97, 112] v.over).toArray⟩ rfl (by rw [hrz]; unfold maxLen; omega) (by rw [hrz]; omega) hsz3 ?_)
                                intro v5 w5 h5 hg5
                                have F5 := ownsA_step F3 hsh3 hg5
                                have isc5 := ownsA_is hsh3 hg5 isc3 (by decide)
                                try rw [hrz] at h5
                                rw [bytesOf_mk (rowM [32, 111, 118, 101, 114, 108, 97, 112] v.over)] at h5
                                have h5 := ownsA_join h5 rfl
                                have h5a := ownsA_fr h5 ((Fr.refl (fun _ => False) w5).alloc (.cells #[.int .u8 10] 5)) fun _ _ => id
                                have hsz5 := F5.size
                                have hl4 : (P4 ++ rowM [32, 111, 118, 101, 114, 108, 97, 112] v.over).length ≤ 4398046511110 := by rw [List.length_append]; omega
                                clear hg5 hsh3 F3 h5 hl3
                                generalize P4 ++ rowM [32, 111, 118, 101, 114, 108, 97, 112] v.over = P5 at *
                                go_wp2_with (at_builtin; refine wpList_appendA _ rfl _ _ 72 rfl i0 (.int .u8 0) 1 Tryz.underlying72 hi hz0 hz1 hz2 rfl rfl h5a ⟨w5.heap.size, 0, none⟩ 1 1 [Value.int .u8 10] rfl rfl (by intro j u' hj; match j, hj with | 0, hj => simp at hj; subst hj; simp [Addr.add]) (by intro u' hu'; simp at hu'; subst hu'; rfl) (by unfold maxLen; omega) (by omega) (by simp; omega) ?_)
                                intro v6 w6 h6 hg6
                                have F6 := ownsA_step (F5.alloc _) h5a hg6
                                have isc6 := ownsA_is h5a hg6 (isc5.alloc _) (by decide)
                                have h6 := ownsA_join (ys := [10]) h6 rfl
                                clear hg6 h5a
                                go_wp2_with fail
                                go_roundw
                                case rel => exact ⟨k + 1, by omega, by go_num, isc6, by rw [HS.out, HP.out]; exact h6, F6⟩
                                case measure => simp [intOf]; omega

                      · have isr0 : Is (wz.alloc (.cells #[.int .i64 v.entry, .int .i64 v.exit, .slice v.a1 v.path.length v.c1, .slice v.a2 v.flank.length v.c2, .slice v.a3 v.over.length v.c3, .bool true] 43)) wz.heap.size 43 #[.int .i64 v.entry, .int .i64 v.exit, .slice v.a1 v.path.length v.c1, .slice v.a2 v.flank.length v.c2, .slice v.a3 v.over.length v.c3, .bool true] := Is.new wz _ _
                        have isc0 := isc.alloc (.cells #[.int .i64 v.entry, .int .i64 v.exit, .slice v.a1 v.path.length v.c1, .slice v.a2 v.flank.length v.c2, .slice v.a3 v.over.length v.c3, .bool true] 43)
                        have hsh0 := ownsA_fr hsh ((Fr.refl (fun _ => False) wz).alloc (.cells #[.int .i64 v.entry, .int .i64 v.exit, .slice v.a1 v.path.length v.c1, .slice v.a2 v.flank.length v.c2, .slice v.a3 v.over.length v.c3, .bool true] 43)) fun _ _ => id
                        have F0 := fr.alloc (.cells #[.int .i64 v.entry, .int .i64 v.exit, .slice v.a1 v.path.length v.c1, .slice v.a2 v.flank.length v.c2, .slice v.a3 v.over.length v.c3, .bool true] 43)
                        have e3 : In64 [v.entry, v.exit, 1] := by
                          intro x hx
                          simp only [List.mem_cons, List.not_mem_nil, or_false] at hx
                          rcases hx with rfl | rfl | rfl
                          · exact v1 _ (by simp)
                          · exact v1 _ (by simp)
                          · omega
                        have KR := words_any wRt (A := some ⟨wz.heap.size + 1, 0, none⟩) (c := 3) [v.entry, v.exit, 1] ((wz.alloc (.cells #[.int .i64 v.entry, .int .i64 v.exit, .slice v.a1 v.path.length v.c1, .slice v.a2 v.flank.length v.c2, .slice v.a3 v.over.length v.c3, .bool true] 43)).alloc (.cells #[.int .i64 v.entry, .int .i64 v.exit, .int .i64 1] 3)) (lit_rd_at (by simp) _ _) (hP.fr (F0.alloc _)) e3 (by decide) (by simp)
                        have hrl : (rowM wRt [v.entry, v.exit, 1]).length ≤ 4398046511104 := by
                          have e : digitM true = 1 := rfl
                          rw [e] at hT
                          simp only [List.length_append] at hT
                          omega
                        have hol : v.over.length ≤ 2199023255552 := by
                          simp only [List.length_append] at hT
                          exact numsM_len2 (wd := [32, 111, 118, 101, 114, 108, 97, 112]) (by omega)
                        have hrz : ((⟨(rowM wRt [v.entry, v.exit, 1]).toArray⟩ : ByteArray) ++ (⟨#[32, 112, 97, 116, 104]⟩ : ByteArray)).size = (rowM wRt [v.entry, v.exit, 1]).length + 5 := by rw [ByteArray.size_append, size_mk]; rfl
                        have hrb : bytesOf ((⟨(rowM wRt [v.entry, v.exit, 1]).toArray⟩ : ByteArray) ++ (⟨#[32, 112, 97, 116, 104]⟩ : ByteArray)) = rowM wRt [v.entry, v.exit, 1] ++ [32, 112, 97, 116, 104] := by rw [bytesOf_append, bytesOf_mk]; rfl
                        go_wp2_with fail
                        refine KR.mono ?_
                        clear KR
                        rintro _ w3 ⟨rfl, f3⟩
                        have F3 := fr_nil (F0.alloc _) f3
                        have g3 := ((Fr.refl (fun _ => False) (wz.alloc (.cells #[.int .i64 v.entry, .int .i64 v.exit, .slice v.a1 v.path.length v.c1, .slice v.a2 v.flank.length v.c2, .slice v.a3 v.over.length v.c3, .bool true] 43))).alloc _).trans f3 fun _ _ h => h
                        have isc3 := isc0.fr g3 id
                        have isr3 := isr0.fr g3 id
                        have hsh3 := ownsA_fr hsh0 g3 fun _ _ => id
                        have hsz3 := F3.size
                        clear hsh0 isc0 isr0 F0 f3 g3 isc fr hsh
                        have hadd : (⟨(rowM wRt [v.entry, v.exit, 1]).toArray⟩ : ByteArray).size ≤ 4398046511104 := by rw [size_mk]; exact hrl
                        go_wp2_with (at_builtin; refine wpList_appendA_string _ rfl _ _ 72 9 rfl i0 Tryz.underlying72 Tryz.underlying9 hi hz0 hz1 hz2 rfl hsh3 _ rfl ?_ ?_ hsz3 ?_)
                        case refine_1 => rw [hrz]; unfold maxLen; omega
                        case refine_2 => rw [hrz]; omega
                        intro v4 w4 h4 hg4
                        have fr := ownsA_step F3 hsh3 hg4
                        have isc := ownsA_is hsh3 hg4 isc3 (by decide)
                        have isr := ownsA_is hsh3 hg4 isr3 (by decide)
                        try rw [hrz] at h4
                        try rw [hrb] at h4
                        have hsh := ownsA_join (xs := bs) (ys := rowM wRt [v.entry, v.exit, 1] ++ [32, 112, 97, 116, 104]) (by simpa only [List.map_append, List.map_cons, List.map_nil] using h4) (by rw [List.length_append]; rfl)
                        clear h4 hg4 hsh3 F3 isc3 isr3 hrz hrb hadd
                        have eP : bs ++ (rowM wRt [v.entry, v.exit, digitM true] ++ [32, 112, 97, 116, 104]) = bs ++ (rowM wRt [v.entry, v.exit, 1] ++ [32, 112, 97, 116, 104]) := rfl
                        rw [eP] at hT HP
                        clear eP
                        generalize hbz : wz.heap.size = b at *
                        clear hbz
                        have hP1 : (bs ++ (rowM wRt [v.entry, v.exit, 1] ++ [32, 112, 97, 116, 104])).length + (v.path.flatMap stT).length + (v.flank.flatMap ndT).length + (rowM [32, 111, 118, 101, 114, 108, 97, 112] v.over).length ≤ 4398046511104 := by
                          simp only [List.length_append, List.length_cons, List.length_nil] at hT ⊢
                          omega
                        clear hT hrl hbs
                        generalize bs ++ (rowM wRt [v.entry, v.exit, 1] ++ [32, 112, 97, 116, 104]) = P1 at *
                        have qa := isr.cell 2
                        go_wp2_with fail
                        clear qa
                        go_loopw [3, 116] (fun v3 vi wr => ∃ m : Nat, m ≤ v.path.length ∧ vi = .int .i64 (m : Nat) ∧ Is wr w.heap.size 30 C.arr ∧ Is wr b 43 #[.int .i64 v.entry, .int .i64 v.exit, .slice v.a1 v.path.length v.c1, .slice v.a2 v.flank.length v.c2, .slice v.a3 v.over.length v.c3, .bool true] ∧ ownsA wr w.heap.size 5 v3 (P1 ++ (v.path.take m).flatMap stT).length ((P1 ++ (v.path.take m).flatMap stT).map B) ∧ Fr (fun _ => False) w wr) (fun _ i _ => v.path.length - (intOf i).toNat)
                        case atStart => exact ⟨0, Nat.zero_le _, rfl, isc, isr, by simpa only [List.take_zero, List.flatMap_nil, List.append_nil] using hsh, fr⟩
                        case round =>
                          clear isc isr hsh fr
                          obtain ⟨m, hm, rfl, isc, isr, hsh, fr⟩ := hrel
                          by_cases hmt : m < v.path.length
                          · obtain ⟨ga, oa, ha, q0, q1, q2⟩ := rd_st (hok.path.fr fr fun _ _ => id) hmt
                            have hbm := (flat_le stT v.path).2 m
                            have hb1 := (flat_le stT v.path).1 _ (List.getElem_mem hmt)
                            have hsn : P1 ++ (v.path.take (m + 1)).flatMap stT = (P1 ++ (v.path.take m).flatMap stT) ++ stT v.path[m] := by rw [flat_snoc _ _ _ hmt]; try simp only [List.append_assoc]
                            have hv := stepsL_mem (List.getElem_mem hmt) v2
                            have hPl : (P1 ++ (v.path.take m).flatMap stT).length ≤ 8796093022208 := by rw [List.length_append]; omega
                            have hTl : (stT v.path[m]).length ≤ 8796093022208 := by omega
                            generalize P1 ++ (v.path.take m).flatMap stT = xs at *
                            have HS2 := Lib.hid hsn
                            clear hsn hbm hb1
                            generalize v.path[m] = u at *
                            have eT : stT u = rowM [] [u.sec, u.inn, u.out] := rfl
                            rw [eT] at hTl
                            have KR := words_any [] (A := some ⟨wr.heap.size + 1, 0, none⟩) (c := 3) [u.sec, u.inn, u.out] ((wr.alloc (.cells #[.int .i64 u.sec, .int .i64 u.inn, .int .i64 u.out] 45)).alloc (.cells #[.int .i64 u.sec, .int .i64 u.inn, .int .i64 u.out] 3)) (lit_rd_at (by simp) _ _) (hP.fr ((fr.alloc _).alloc _)) hv (by decide) (by simp)
                            rw [ha]
                            have HA2 := Lib.hid ha
                            clear ha
                            go_wp2_with fail
                            refine KR.mono ?_
                            clear KR
                            rintro _ w3 ⟨rfl, f3⟩
                            have F3 := fr_nil ((fr.alloc _).alloc _) f3
                            have g3 := (((Fr.refl (fun _ => False) wr).alloc _).alloc _).trans f3 fun _ _ h => h
                            have isc3 := isc.fr g3 id
                            have isr3 := isr.fr g3 id
                            have hsh3 := ownsA_fr hsh g3 fun _ _ => id
                            have hrz : (⟨(rowM [] [u.sec, u.inn, u.out]).toArray⟩ : ByteArray).size = (rowM [] [u.sec, u.inn, u.out]).length := size_mk _
                            have hsz3 := F3.size
                            clear hsh isc isr fr f3 g3
                            go_wp2_with (at_builtin; refine wpList_appendA_string _ rfl _ _ 72 9 rfl i0 Tryz.underlying72 Tryz.underlying9 hi hz0 hz1 hz2 rfl hsh3 ⟨(rowM [] [u.sec, u.inn, u.out]).toArray⟩ rfl (by rw [hrz]; unfold maxLen; omega) (by rw [hrz]; omega) hsz3 ?_)
                            intro v4 w4 h4 hg4
                            have F4 := ownsA_step F3 hsh3 hg4
                            have isc4 := ownsA_is hsh3 hg4 isc3 (by decide)
                            have isr4 := ownsA_is hsh3 hg4 isr3 (by decide)
                            try rw [hrz] at h4
                            rw [bytesOf_mk (rowM [] [u.sec, u.inn, u.out])] at h4
                            have h5 := ownsA_join h4 rfl
                            clear h4 hg4 hsh3 F3
                            go_wp2_with fail
                            go_roundw
                            case rel => exact ⟨m + 1, by omega, by go_num, isc4, (by rw [HA2.out] at isr4; exact isr4), by rw [HS2.out, eT]; exact h5, F4⟩
                            case measure => simp [intOf]; omega
                          · obtain rfl : m = v.path.length := by omega
                            rw [List.take_length] at hsh
                            have hl1 : (P1 ++ v.path.flatMap stT).length + (v.flank.flatMap ndT).length + (rowM [32, 111, 118, 101, 114, 108, 97, 112] v.over).length ≤ 4398046511104 := by rw [List.length_append]; omega
                            clear hP1
                            generalize P1 ++ v.path.flatMap stT = P2 at *
                            have hsz := fr.size
                            have hrz : ((⟨#[32, 102, 108, 97, 110, 107]⟩ : ByteArray) : ByteArray).size = 6 := rfl
                            go_wp2_with (at_builtin; refine wpList_appendA_string _ rfl _ _ 72 9 rfl i0 Tryz.underlying72 Tryz.underlying9 hi hz0 hz1 hz2 rfl hsh (⟨#[32, 102, 108, 97, 110, 107]⟩ : ByteArray) rfl (by rw [hrz]; unfold maxLen; omega) (by rw [hrz]; omega) hsz ?_)
                            intro v4 w4 h4 hg4
                            have fr4 := ownsA_step fr hsh hg4
                            have isc4 := ownsA_is hsh hg4 isc (by decide)
                            have isr4 := ownsA_is hsh hg4 isr (by decide)
                            have hsh4 := ownsA_join (ys := [32, 102, 108, 97, 110, 107]) h4 rfl
                            clear h4 hg4 hsh isc isr fr hsz hrz
                            have hl2 : (P2 ++ [32, 102, 108, 97, 110, 107]).length + (v.flank.flatMap ndT).length + (rowM [32, 111, 118, 101, 114, 108, 97, 112] v.over).length ≤ 4398046511110 := by rw [List.length_append]; simp only [List.length_cons, List.length_nil]; omega
                            clear hl1
                            generalize P2 ++ [32, 102, 108, 97, 110, 107] = P3 at *
                            have isc := isc4
                            have isr := isr4
                            have hsh := hsh4
                            have fr := fr4
                            clear isc4 isr4 hsh4 fr4
                            obtain ⟨wy, rfl⟩ : ∃ wy, wy = w4 := ⟨_, rfl⟩
                            have qa := isr.cell 3
                            go_wp2_with fail
                            clear qa
                            go_loopw [3, 136] (fun v3 vi wr => ∃ m : Nat, m ≤ v.flank.length ∧ vi = .int .i64 (m : Nat) ∧ Is wr w.heap.size 30 C.arr ∧ Is wr b 43 #[.int .i64 v.entry, .int .i64 v.exit, .slice v.a1 v.path.length v.c1, .slice v.a2 v.flank.length v.c2, .slice v.a3 v.over.length v.c3, .bool true] ∧ ownsA wr w.heap.size 5 v3 (P3 ++ (v.flank.take m).flatMap ndT).length ((P3 ++ (v.flank.take m).flatMap ndT).map B) ∧ Fr (fun _ => False) w wr) (fun _ i _ => v.flank.length - (intOf i).toNat)
                            case atStart => exact ⟨0, Nat.zero_le _, rfl, isc, isr, by simpa only [List.take_zero, List.flatMap_nil, List.append_nil] using hsh, fr⟩
                            case round =>
                              clear isc isr hsh fr
                              obtain ⟨m, hm, rfl, isc, isr, hsh, fr⟩ := hrel
                              by_cases hmt : m < v.flank.length
                              · obtain ⟨ga, oa, ha, q0, q1⟩ := rd_nd (hok.flank.fr fr fun _ _ => id) hmt
                                have hbm := (flat_le ndT v.flank).2 m
                                have hb1 := (flat_le ndT v.flank).1 _ (List.getElem_mem hmt)
                                have hsn : P3 ++ (v.flank.take (m + 1)).flatMap ndT = (P3 ++ (v.flank.take m).flatMap ndT) ++ ndT v.flank[m] := by rw [flat_snoc _ _ _ hmt]; try simp only [List.append_assoc]
                                have hv := needsL_mem (List.getElem_mem hmt) v3
                                have hPl : (P3 ++ (v.flank.take m).flatMap ndT).length ≤ 8796093022208 := by rw [List.length_append]; omega
                                have hTl : (ndT v.flank[m]).length ≤ 8796093022208 := by omega
                                generalize P3 ++ (v.flank.take m).flatMap ndT = xs at *
                                have HS2 := Lib.hid hsn
                                clear hsn hbm hb1
                                generalize v.flank[m] = u at *
                                have eT : ndT u = rowM [] [u.sec, u.pos] := rfl
                                rw [eT] at hTl
                                have KR := words_any [] (A := some ⟨wr.heap.size + 1, 0, none⟩) (c := 2) [u.sec, u.pos] ((wr.alloc (.cells #[.int .i64 u.sec, .int .i64 u.pos] 67)).alloc (.cells #[.int .i64 u.sec, .int .i64 u.pos] 3)) (lit_rd_at (by simp) _ _) (hP.fr ((fr.alloc _).alloc _)) hv (by decide) (by simp)
                                rw [ha]
                                have HA2 := Lib.hid ha
                                clear ha
                                go_wp2_with fail
                                refine KR.mono ?_
                                clear KR
                                rintro _ w3 ⟨rfl, f3⟩
                                have F3 := fr_nil ((fr.alloc _).alloc _) f3
                                have g3 := (((Fr.refl (fun _ => False) wr).alloc _).alloc _).trans f3 fun _ _ h => h
                                have isc3 := isc.fr g3 id
                                have isr3 := isr.fr g3 id
                                have hsh3 := ownsA_fr hsh g3 fun _ _ => id
                                have hrz : (⟨(rowM [] [u.sec, u.pos]).toArray⟩ : ByteArray).size = (rowM [] [u.sec, u.pos]).length := size_mk _
                                have hsz3 := F3.size
                                clear hsh isc isr fr f3 g3
                                go_wp2_with (at_builtin; refine wpList_appendA_string _ rfl _ _ 72 9 rfl i0 Tryz.underlying72 Tryz.underlying9 hi hz0 hz1 hz2 rfl hsh3 ⟨(rowM [] [u.sec, u.pos]).toArray⟩ rfl (by rw [hrz]; unfold maxLen; omega) (by rw [hrz]; omega) hsz3 ?_)
                                intro v4 w4 h4 hg4
                                have F4 := ownsA_step F3 hsh3 hg4
                                have isc4 := ownsA_is hsh3 hg4 isc3 (by decide)
                                have isr4 := ownsA_is hsh3 hg4 isr3 (by decide)
                                try rw [hrz] at h4
                                rw [bytesOf_mk (rowM [] [u.sec, u.pos])] at h4
                                have h5 := ownsA_join h4 rfl
                                clear h4 hg4 hsh3 F3
                                go_wp2_with fail
                                go_roundw
                                case rel => exact ⟨m + 1, by omega, by go_num, isc4, (by rw [HA2.out] at isr4; exact isr4), by rw [HS2.out, eT]; exact h5, F4⟩
                                case measure => simp [intOf]; omega
                              · obtain rfl : m = v.flank.length := by omega
                                rw [List.take_length] at hsh
                                have hl3 : (P3 ++ v.flank.flatMap ndT).length + (rowM [32, 111, 118, 101, 114, 108, 97, 112] v.over).length ≤ 4398046511110 := by rw [List.length_append]; omega
                                clear hl2
                                generalize P3 ++ v.flank.flatMap ndT = P4 at *
                                have qa := isr.cell 4
                                have KR := words_any [32, 111, 118, 101, 114, 108, 97, 112] (A := v.a3) (c := v.c3) v.over wr (hok.over.fr fr fun _ _ => id) (hP.fr fr) hv4 (by decide) hol
                                go_wp2_with fail
                                refine KR.mono ?_
                                clear KR qa
                                rintro _ w3 ⟨rfl, f3⟩
                                have F3 := fr_nil fr f3
                                have isc3 := isc.fr f3 id
                                have hsh3 := ownsA_fr hsh f3 fun _ _ => id
                                have hrz : (⟨(rowM [32, 111, 118, 101, 114, 108, 97, 112] v.over).toArray⟩ : ByteArray).size = (rowM [32, 111, 118, 101, 114, 108, 97, 112] v.over).length := size_mk _
                                have hsz3 := F3.size
                                clear hsh isc isr fr f3
                                go_wp2_with (at_builtin; refine wpList_appendA_string _ rfl _ _ 72 9 rfl i0 Tryz.underlying72 Tryz.underlying9 hi hz0 hz1 hz2 rfl hsh3 ⟨(rowM [32, 111, 118, 101, 114, 108, 97, 112] v.over).toArray⟩ rfl (by rw [hrz]; unfold maxLen; omega) (by rw [hrz]; omega) hsz3 ?_)
                                intro v5 w5 h5 hg5
                                have F5 := ownsA_step F3 hsh3 hg5
                                have isc5 := ownsA_is hsh3 hg5 isc3 (by decide)
                                try rw [hrz] at h5
                                rw [bytesOf_mk (rowM [32, 111, 118, 101, 114, 108, 97, 112] v.over)] at h5
                                have h5 := ownsA_join h5 rfl
                                have h5a := ownsA_fr h5 ((Fr.refl (fun _ => False) w5).alloc (.cells #[.int .u8 10] 5)) fun _ _ => id
                                have hsz5 := F5.size
                                have hl4 : (P4 ++ rowM [32, 111, 118, 101, 114, 108, 97, 112] v.over).length ≤ 4398046511110 := by rw [List.length_append]; omega
                                clear hg5 hsh3 F3 h5 hl3
                                generalize P4 ++ rowM [32, 111, 118, 101, 114, 108, 97, 112] v.over = P5 at *
                                go_wp2_with (at_builtin; refine wpList_appendA _ rfl _ _ 72 rfl i0 (.int .u8 0) 1 Tryz.underlying72 hi hz0 hz1 hz2 rfl rfl h5a ⟨w5.heap.size, 0, none⟩ 1 1 [Value.int .u8 10] rfl rfl (by intro j u' hj; match j, hj with | 0, hj => simp at hj; subst hj; simp [Addr.add]) (by intro u' hu'; simp at hu'; subst hu'; rfl) (by unfold maxLen; omega) (by omega) (by simp; omega) ?_)
                                intro v6 w6 h6 hg6
                                have F6 := ownsA_step (F5.alloc _) h5a hg6
                                have isc6 := ownsA_is h5a hg6 (isc5.alloc _) (by decide)
                                have h6 := ownsA_join (ys := [10]) h6 rfl
                                clear hg6 h5a
                                go_wp2_with fail
                                go_roundw
                                case rel => exact ⟨k + 1, by omega, by go_num, isc6, by rw [HS.out, HP.out]; exact h6, F6⟩
                                case measure => simp [intOf]; omega

                    · obtain rfl : k = C.rs.length := by omega
                      rw [List.take_length] at hsh
                      obtain ⟨p0, p1, p2, p3, p4, p5, p6, p7, p8⟩ := conf_cells isc
                      have hbs : (C.l.flatMap secT ++ C.js.flatMap joT ++ C.sg.flatMap sgT ++ C.cr.flatMap crT ++ C.rs.flatMap rtO).length ≤ 1099511627776 := by
                        simp only [List.length_append]
                        omega
                      have hml : (rowM wTm [C.tm.age, C.tm.brake, C.tm.hold, C.tm.budget]).length ≤ 1099511627776 := by
                        have e : (tmT C.tm).length = (rowM wTm [C.tm.age, C.tm.brake, C.tm.hold, C.tm.budget]).length + 1 := by unfold tmT; rw [List.length_append]; rfl
                        omega
                      have hfin : textM C.cf = (C.l.flatMap secT ++ C.js.flatMap joT ++ C.sg.flatMap sgT ++ C.cr.flatMap crT ++ C.rs.flatMap rtO) ++ rowM wTm [C.tm.age, C.tm.brake, C.tm.hold, C.tm.budget] ++ [10] := by
                        rw [HTX.out, rtO_flat]
                        simp only [tmT, List.append_assoc]
                      have h4 := h64.tm
                      clear HTX hl0 hlen
                      generalize C.l.flatMap secT ++ C.js.flatMap joT ++ C.sg.flatMap sgT ++ C.cr.flatMap crT ++ C.rs.flatMap rtO = bs at *
                      have HF := Lib.hid hfin
                      clear hfin
                      have KR := words_any wTm (A := some ⟨wr.heap.size, 0, none⟩) (c := 4) [C.tm.age, C.tm.brake, C.tm.hold, C.tm.budget] (wr.alloc (.cells #[.int .i64 C.tm.age, .int .i64 C.tm.brake, .int .i64 C.tm.hold, .int .i64 C.tm.budget] 3)) (lit_rd_at (by simp) _ _) (hP.fr (fr.alloc _)) h4 (by decide) (by simp)
                      go_wp2_with fail
                      refine KR.mono ?_
                      clear KR
                      rintro _ w3 ⟨rfl, f3⟩
                      have F3 := fr_nil (fr.alloc _) f3
                      have g3 := ((Fr.refl (fun _ => False) wr).alloc _).trans f3 fun _ _ h => h
                      have hsh3 := ownsA_fr hsh g3 fun _ _ => id
                      have hrz : (⟨(rowM wTm [C.tm.age, C.tm.brake, C.tm.hold, C.tm.budget]).toArray⟩ : ByteArray).size = (rowM wTm [C.tm.age, C.tm.brake, C.tm.hold, C.tm.budget]).length := size_mk _
                      have hsz3 := F3.size
                      clear hsh isc fr f3 g3
                      go_wp2_with (at_builtin; refine wpList_appendA_string _ rfl _ _ 72 9 rfl i0 Tryz.underlying72 Tryz.underlying9 hi hz0 hz1 hz2 rfl hsh3 ⟨(rowM wTm [C.tm.age, C.tm.brake, C.tm.hold, C.tm.budget]).toArray⟩ rfl (by rw [hrz]; unfold maxLen; omega) (by rw [hrz]; omega) hsz3 ?_)
                      intro v5 w5 h5 hg5
                      have F5 := ownsA_step F3 hsh3 hg5
                      try rw [hrz] at h5
                      rw [bytesOf_mk (rowM wTm [C.tm.age, C.tm.brake, C.tm.hold, C.tm.budget])] at h5
                      have h5 := ownsA_join h5 rfl
                      have h5a := ownsA_fr h5 ((Fr.refl (fun _ => False) w5).alloc (.cells #[.int .u8 10] 5)) fun _ _ => id
                      have hsz5 := F5.size
                      have hl4 : (bs ++ rowM wTm [C.tm.age, C.tm.brake, C.tm.hold, C.tm.budget]).length ≤ 4398046511110 := by rw [List.length_append]; omega
                      clear hg5 hsh3 F3 h5
                      generalize bs ++ rowM wTm [C.tm.age, C.tm.brake, C.tm.hold, C.tm.budget] = P5 at *
                      go_wp2_with (at_builtin; refine wpList_appendA _ rfl _ _ 72 rfl i0 (.int .u8 0) 1 Tryz.underlying72 hi hz0 hz1 hz2 rfl rfl h5a ⟨w5.heap.size, 0, none⟩ 1 1 [Value.int .u8 10] rfl rfl (by intro j u' hj; match j, hj with | 0, hj => simp at hj; subst hj; simp [Addr.add]) (by intro u' hu'; simp at hu'; subst hu'; rfl) (by unfold maxLen; omega) (by omega) (by simp; omega) ?_)
                      intro v6 w6 h6 hg6
                      have F6 := ownsA_step (F5.alloc _) h5a hg6
                      have h6 := ownsA_join (ys := [10]) h6 rfl
                      have KX := ownsA_text (P := Tryz.prog) h6 (src := 72) (dst := 9) Tryz.underlying72 Tryz.underlying5 Tryz.underlying9
                      clear hg6 h5a
                      go_wp2_with fail
                      go_ret
                      exact ⟨congrArg (fun l : List UInt8 => Ending.returned (.string ⟨l.toArray⟩)) HF.out.symm, F6⟩
end Go.Proofs.YtkkohdmneognlaaGreatDoor

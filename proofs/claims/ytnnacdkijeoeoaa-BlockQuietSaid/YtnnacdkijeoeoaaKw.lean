/- Contracts and plain mathematics of earlier stages: Flank. -/
import Derived.Test.YtnnacdkijeoeoaaKv
import Derived.Deep.Cut
namespace Go.Proofs.Ytnnacdkijeoeoaa
open Go.RowKit

theorem plan_cells {w : World} {b : Nat} {t : TypeId} {C : Cm} (h : Is w b t C.arr) : w.cell? ⟨b, 0, none⟩ = some (.slice C.A1 C.l.length C.c1) ∧ w.cell? ⟨b, 1, none⟩ = some (.slice C.A2 C.js.length C.c2) ∧
    w.cell? ⟨b, 2, none⟩ = some (.slice C.A3 C.sg.length C.c3) ∧ w.cell? ⟨b, 3, none⟩ = some (.slice C.A4 C.cr.length C.c4) ∧ w.cell? ⟨b, 4, none⟩ = some (.slice C.A5 C.rs.length C.c5) ∧
    w.cell? ⟨b, 5, none⟩ = some (.int .i64 C.tm.age) ∧ w.cell? ⟨b, 6, none⟩ = some (.int .i64 C.tm.brake) ∧ w.cell? ⟨b, 7, none⟩ = some (.int .i64 C.tm.hold) ∧ w.cell? ⟨b, 8, none⟩ = some (.int .i64 C.tm.budget) :=
  ⟨h.cell 0, h.cell 1, h.cell 2, h.cell 3, h.cell 4, h.cell 5, h.cell 6, h.cell 7, h.cell 8⟩
theorem is_ne {w : World} {b b' : Nat} {t t' : TypeId} {cs cs' : Array Value} (h : Is w b t cs) (h' : Is w b' t' cs') (ht : t ≠ t') : b ≠ b' := by
  rintro rfl
  unfold Is at h h'
  rw [h] at h'
  injection h' with h'
  injection h' with _ h'
  exact ht h'
theorem Try.infoN : (Try.prog.info? 120).map (fun i => (i.zero, i.size, i.bytes)) = some (some (.agg #[.int .i64 0, .int .i64 0]), 2, 16) := by kernel_rfl
theorem endsL_drop {m : Int} {i : Nat} (h : (i : Int) < m) : (endsL m).drop i = (i : Int) :: (endsL m).drop (i + 1) := by
  unfold endsL
  have hl : i < ((List.range m.toNat).map fun (k : Nat) => (k : Int)).length := by rw [List.length_map, List.length_range]; omega
  rw [List.drop_eq_getElem_cons hl]
  simp
theorem endsL_end {m : Int} {i : Nat} (h : ¬ (i : Int) < m) : (endsL m).drop i = [] := by
  unfold endsL
  rw [List.drop_eq_nil_iff, List.length_map, List.length_range]
  omega
theorem guardOk_sec {l : List Sec} {js : List Jo} {s e : Int} (h : guardOk l js s e = true) : ∃ k : Nat, nextS js s e = k ∧ k < l.length ∧ (guardV l js s e).sec = k ∧ (guardV l js s e) = guardN js s e := by
  have h' := h
  unfold guardOk at h
  simp only [Bool.and_eq_true] at h
  obtain ⟨k, e1, e2⟩ := isSecB_true h.2.1
  have hv : guardV l js s e = guardN js s e := by unfold guardV; rw [if_pos h']
  exact ⟨k, e1, e2, by rw [hv]; exact e1, hv⟩

/-- Needs in memory of the call's own. -/
def Needs (w : World) (L : List Nd) (e : Ending) (w' : World) : Prop := ∃ A c, e = .returned (.slice A L.length c) ∧ w'.ownsRow w.heap.size 120 2 (.slice A L.length c) L.length (cellsN L) ∧ Fr (fun _ => False) w w'

set_option maxHeartbeats 4000000 in
theorem flank_any (C : Cm) (ap : Int) {A : Option Addr} {c : Nat} (path : List St) (w : World) (h : C.Ok w) (hp : Rd w A (cellsT path)) (hl : path.length ≤ 9223372036854775807) :
    Calls Try.prog 60 #[C.val, .int .i64 ap, .slice A path.length c] w (Needs w (flankM C.l C.js ap path)) := by
  have b1 := h.b1
  have KB := fun W (f : Fr (fun _ => False) w W) => barred_any C ap (c := c) path W (h.fr f) (hp.fr f fun _ _ => id) hl
  unfold flankM
  have hbl0 := barM_length C.l.length ap path
  generalize barM C.l.length ap path = b0 at *
  generalize hT : flankO C.l C.js path (b0, []) = T
  have HT := Lib.hid hT
  have HB0 := Lib.hid hbl0
  clear hT hbl0
  obtain ⟨i0, hi0, hz0, hz1, hz2⟩ := info_parts Try.infoN
  have hval : C.val = .agg C.arr := rfl
  go_enter Try.func60, Try.ntmps60
  unfold Cm.val Cm.arr
  clear hval
  go_wp2_with fail
  refine (KB _ (((Fr.refl _ _).alloc _).alloc _)).mono ?_
  clear KB
  rintro x w1 ⟨g, rfl, hgw, isg, f1⟩
  have isp : Is w1 (w.heap.size + 1) 97 C.arr := (is_new_at (by simp) _ _).fr f1 id
  have fr1 : Fr (fun _ => False) w w1 := fr_nil (((Fr.refl _ _).alloc _).alloc _) f1
  have hgw' : w.heap.size ≤ g := by simp at hgw; omega
  clear f1 hgw
  go_wp2_with fail
  go_loopw [8, 23] (fun v8 v23 wr => ∃ (k : Nat) (b : List Bool) (fl : List Nd) (A2 : Option Addr) (c2 : Nat), k ≤ path.length ∧ v23 = .int .i64 (k : Nat) ∧ v8 = .slice A2 fl.length c2 ∧ b.length = C.l.length ∧ fl.length + unseen b ≤ C.l.length ∧
      flankO C.l C.js (path.drop k) (b, fl) = T ∧ Is wr g 4 (cellsB b) ∧ Is wr (w.heap.size + 1) 97 C.arr ∧ wr.ownsRow w.heap.size 120 2 (.slice A2 fl.length c2) fl.length (cellsN fl) ∧ Fr (fun _ => False) w wr)
    (fun _ i _ => path.length - (intOf i).toNat)
  case atStart => exact ⟨0, b0, [], none, 0, Nat.zero_le _, rfl, rfl, HB0.out, by have := unseen_le b0; have := HB0.out; simp; omega, HT.out, isg, isp, World.ownsRow_nil _ _ _ _, fr1⟩
  case round =>
    clear isg isp fr1 HT HB0
    obtain ⟨k, b, fl, A2, c2, hk, rfl, rfl, hbl, hun, hT, isg, isp, hown, fr⟩ := hrel
    by_cases hlt : k < path.length
    · have KE := fun W (f : Fr (fun _ => False) w W) => ends_of_any C path[k].sec W (h.fr f)
      obtain ⟨ga, oa, rfl, q0, q1, q2⟩ := rd_st (hp.fr fr fun _ _ => id) hlt
      obtain ⟨p0, p1, p2, p3, p4, p5, p6, p7, p8⟩ := plan_cells isp
      rw [List.drop_eq_getElem_cons hlt, flankO] at hT
      generalize path[k] = v at *
      have hsz := isp.lt
      have hm4 : endsOf C.l v.sec ≤ 4 := by unfold endsOf; split; exact (ends_bd _).2; omega
      generalize hm : endsOf C.l v.sec = m at *
      have hT2 : flankO C.l C.js (path.drop (k + 1)) (flankI C.l C.js v ((endsL m).drop 0) (b, fl)) = T := hT
      have HT := Lib.hid hT2
      have HBL := Lib.hid hbl
      clear hT hT2 hbl hm
      go_wp2_with fail
      refine (KE _ (fr.alloc _)).mono ?_
      clear KE
      rintro x w3 ⟨rfl, f3⟩
      have isv : Is w3 wr.heap.size 79 #[.int .i64 v.sec, .int .i64 v.inn, .int .i64 v.out] := (Is.new wr _ _).fr f3 id
      have isg3 := (isg.alloc (.cells #[.int .i64 v.sec, .int .i64 v.inn, .int .i64 v.out] 79)).fr f3 id
      have isp3 := (isp.alloc (.cells #[.int .i64 v.sec, .int .i64 v.inn, .int .i64 v.out] 79)).fr f3 id
      have hown3 := wide_fr (hown.alloc (.cells #[.int .i64 v.sec, .int .i64 v.inn, .int .i64 v.out] 79)) f3 fun _ _ => id
      have fr3 := fr_nil (fr.alloc (.cells #[.int .i64 v.sec, .int .i64 v.inn, .int .i64 v.out] 79)) f3
      have hvw : w.heap.size ≤ wr.heap.size := fr.size
      generalize wr.heap.size = vb at *
      clear isg isp hown fr f3 q0 q1 q2 p0 p1 p2 p3 p4 p5 p6 p7 p8 hsz
      go_wp2_with fail
      go_loopw [8, 31] (fun v8 v31 wi => ∃ (i : Nat) (b : List Bool) (fl : List Nd) (A2 : Option Addr) (c2 : Nat), v31 = .int .i64 (i : Nat) ∧ v8 = .slice A2 fl.length c2 ∧ b.length = C.l.length ∧ fl.length + unseen b ≤ C.l.length ∧
          flankO C.l C.js (path.drop (k + 1)) (flankI C.l C.js v ((endsL m).drop i) (b, fl)) = T ∧ Is wi g 4 (cellsB b) ∧ Is wi (w.heap.size + 1) 97 C.arr ∧ Is wi vb 79 #[.int .i64 v.sec, .int .i64 v.inn, .int .i64 v.out] ∧
          wi.ownsRow w.heap.size 120 2 (.slice A2 fl.length c2) fl.length (cellsN fl) ∧ Fr (fun _ => False) w wi)
        (fun _ i _ => m.toNat - (intOf i).toNat)
      case atStart => exact ⟨0, b, fl, A2, c2, rfl, rfl, HBL.out, hun, HT.out, isg3, isp3, isv, hown3, fr3⟩
      case round =>
        clear isg3 isp3 isv hown3 fr3 HT HBL hun
        obtain ⟨i, b, fl, A2, c2, rfl, rfl, hbl, hun, hT, isg, isp, isv, hown, fr⟩ := hrel
        by_cases hie : (i : Int) < m
        · obtain ⟨p0, p1, p2, p3, p4, p5, p6, p7, p8⟩ := plan_cells isp
          have v0 := isv.cell 0
          have v1 := isv.cell 1
          have v2 := isv.cell 2
          rw [endsL_drop hie, flankI] at hT
          have KG := fun W (f : Fr (fun _ => False) w W) => guard_any C v.sec (i : Nat) W (h.fr f)
          by_cases c1 : (i : Int) = v.inn
          · have e1 : ((i : Int) == v.inn) = true := by simp [c1]
            rw [show flankE C.l C.js v (i : Int) (b, fl) = (b, fl) by unfold flankE; rw [if_pos (by simp [c1])]] at hT
            have HT := Lib.hid hT
            have HBL := Lib.hid hbl
            clear hT hbl c1 KG
            go_wp2_with fail
            go_roundw
            case rel => exact ⟨i + 1, b, fl, A2, c2, by go_num, rfl, HBL.out, hun, HT.out, isg, isp, isv, hown, fr⟩
            case measure => simp [intOf]; omega
          · have e1 : ((i : Int) == v.inn) = false := by simp [c1]
            by_cases c2' : (i : Int) = v.out
            · have e2 : ((i : Int) == v.out) = true := by simp [c2']
              rw [show flankE C.l C.js v (i : Int) (b, fl) = (b, fl) by unfold flankE; rw [if_pos (by simp [c2'])]] at hT
              have HT := Lib.hid hT
              have HBL := Lib.hid hbl
              clear hT hbl c1 c2' KG
              go_wp2_with fail
              go_roundw
              case rel => exact ⟨i + 1, b, fl, A2, c2, by go_num, rfl, HBL.out, hun, HT.out, isg, isp, isv, hown, fr⟩
              case measure => simp [intOf]; omega
            · have e2 : ((i : Int) == v.out) = false := by simp [c2']
              have hE : flankE C.l C.js v (i : Int) (b, fl) = if (guardOk C.l C.js v.sec (i : Int) && !seenAt b (nextS C.js v.sec (i : Int)).toNat) = true then (b.set (nextS C.js v.sec (i : Int)).toNat true, fl ++ [guardN C.js v.sec (i : Int)]) else (b, fl) := by
                unfold flankE
                rw [if_neg (by simp [c1, c2'])]
              rw [hE] at hT
              clear hE c1 c2'
              cases hg : guardOk C.l C.js v.sec (i : Int)
              · rw [hg] at KG hT
                rw [Bool.false_and, if_neg (by decide)] at hT
                generalize guardV C.l C.js v.sec (i : Int) = gv at *
                have HT := Lib.hid hT
                have HBL := Lib.hid hbl
                clear hT hbl hg
                go_wp2_with fail
                refine (KG _ fr).mono ?_
                clear KG
                rintro x w5 ⟨rfl, f5⟩
                have isg := isg.fr f5 id
                have isp := isp.fr f5 id
                have isv := isv.fr f5 id
                have hown := wide_fr hown f5 fun _ _ => id
                have fr := fr_nil fr f5
                go_wp2_with fail
                go_roundw
                case rel => exact ⟨i + 1, b, fl, A2, c2, by go_num, rfl, HBL.out, hun, HT.out, isg.alloc _, isp.alloc _, isv.alloc _, hown.alloc _, fr.alloc _⟩
                case measure => simp [intOf]; omega
              · obtain ⟨q, hq, hql, hqs, hqv⟩ := guardOk_sec hg
                rw [hg] at KG hT
                rw [hq, Int.toNat_natCast, Bool.true_and, ← hqv] at hT
                generalize guardV C.l C.js v.sec (i : Int) = gv at *
                obtain ⟨gs, gp⟩ := gv
                simp only at hqs
                subst hqs
                clear hg hq hqv
                cases hsn : seenAt b q
                · rw [hsn] at hT
                  rw [if_pos (show (!false) = true from rfl)] at hT
                  have hun2 := unseen_set b q (by omega) hsn
                  have HT := Lib.hid hT
                  have HBL := Lib.hid hbl
                  have HSN := Lib.hid hsn
                  have HUN := Lib.hid hun2
                  have hfl : fl.length < C.l.length := by omega
                  clear hT hbl hsn hun2
                  go_wp2_with fail
                  refine (KG _ fr).mono ?_
                  clear KG
                  rintro x w5 ⟨rfl, f5⟩
                  have isg := (isg.fr f5 id).alloc (.cells #[.int .i64 (q : Nat), .int .i64 gp] 120)
                  have isp := (isp.fr f5 id).alloc (.cells #[.int .i64 (q : Nat), .int .i64 gp] 120)
                  have isv := (isv.fr f5 id).alloc (.cells #[.int .i64 (q : Nat), .int .i64 gp] 120)
                  have hown := (wide_fr hown f5 fun _ _ => id).alloc (.cells #[.int .i64 (q : Nat), .int .i64 gp] 120)
                  have fr := (fr_nil fr f5).alloc (.cells #[.int .i64 (q : Nat), .int .i64 gp] 120)
                  have isn : Is (w5.alloc (.cells #[.int .i64 (q : Nat), .int .i64 gp] 120)) w5.heap.size 120 #[.int .i64 (q : Nat), .int .i64 gp] := Is.new w5 _ _
                  have g0 := (isg.cell q).trans (cellsB_at (by rw [HBL.out]; exact hql))
                  rw [HSN.out] at g0
                  have gz := isg.frozen q
                  clear p0 p1 p2 p3 p4 p5 p6 p7 p8 v0 v1 v2 f5
                  have n0 := isn.cell 0
                  have n1 := isn.cell 1
                  go_upto_region 13 with (fail)
                  generalize hW : (w5.alloc (.cells #[.int .i64 (q : Nat), .int .i64 gp] 120)) = W at isg isp isv hown fr isn g0 gz n0 n1 ⊢
                  generalize hB : w5.heap.size = nb at isn n0 n1 ⊢
                  clear hW hB
                  have isg2 := isg.set q (.bool true)
                  rw [cellsB_set] at isg2
                  have isp2 := isp.far (p := ⟨g, q, none⟩) (is_ne isp isg (by decide)) (.bool true)
                  have isv2 := isv.far (p := ⟨g, q, none⟩) (is_ne isv isg (by decide)) (.bool true)
                  have isn2 := isn.far (p := ⟨g, q, none⟩) (is_ne isn isg (by decide)) (.bool true)
                  have f6 := (Fr.refl (fun j => j = g) W).setCell (p := ⟨g, q, none⟩) (.inl rfl) (.bool true)
                  have hown2 := wide_fr hown f6 fun j hj e => wide_is_ne hown isg (by decide) (e ▸ hj)
                  have fr2 := fr.setCell (p := ⟨g, q, none⟩) (.inr hgw') (.bool true)
                  have m0 := isn2.cell 0
                  have m1 := isn2.cell 1
                  have hlo := World.ownsRow.lt hown2
                  clear f6 isn isp isv isn2
                  go_wp2_with (at_builtin; refine wpList_append_wide _ rfl (.tmp 65) (.tmp 67) 81 rfl w.heap.size 120 i0 _ 2 16 Try.underlying81 hi0 hz0 hz1 hz2 rfl (by decide) (.slice A2 fl.length c2) fl.length (cellsN fl) rfl (hown2.alloc _) (some ⟨W.heap.size, 0, none⟩) 1 1 [.int .i64 (q : Nat), .int .i64 gp] rfl rfl (lit_rd_at (by simp [World.setCell]) _ _) (by simp [Value.oneCell']) (by unfold maxLen; omega) (by omega) (Nat.le_trans fr2.size (by simp)) ?_; intro v6 w6 hown6 hg6 hat6; obtain ⟨A6, c6, rfl, _, _, _, _⟩ := wide_form hown6)
                  have f7 := (Fr.refl (fun j => (Value.slice A2 fl.length c2).ownBlock = some j) _).grown hg6 fun j hj => .inl hj
                  have isg6 := (isg2.alloc (.cells #[.int .i64 (q : Nat), .int .i64 gp] 120)).fr f7 (wide_is_ne hown2 isg2 (by decide))
                  have isp6 := (isp2.alloc (.cells #[.int .i64 (q : Nat), .int .i64 gp] 120)).fr f7 (wide_is_ne hown2 isp2 (by decide))
                  have isv6 := (isv2.alloc (.cells #[.int .i64 (q : Nat), .int .i64 gp] 120)).fr f7 (wide_is_ne hown2 isv2 (by decide))
                  have fr6 := (fr2.alloc (.cells #[.int .i64 (q : Nat), .int .i64 gp] 120)).grown hg6 fun j hj => .inr (hlo j hj).1
                  clear f7 hg6 hat6 hown2 isg2 isp2 isv2 fr2 g0 gz n0 n1 m0 m1
                  go_wp2_with fail
                  go_roundw
                  case rel => exact ⟨i + 1, b.set q true, fl ++ [⟨(q : Nat), gp⟩], A6, c6, by go_num, by rw [List.length_append]; rfl, by rw [List.length_set]; exact HBL.out, by have := HUN.out; rw [List.length_append, List.length_singleton]; omega, HT.out, isg6, isp6, isv6, by rw [List.length_append, cellsN_snoc]; exact hown6, fr6⟩
                  case measure => simp [intOf]; omega
                · rw [hsn] at hT
                  rw [if_neg (by decide)] at hT
                  have HT := Lib.hid hT
                  have HBL := Lib.hid hbl
                  have HSN := Lib.hid hsn
                  clear hT hbl hsn
                  go_wp2_with fail
                  refine (KG _ fr).mono ?_
                  clear KG
                  rintro x w5 ⟨rfl, f5⟩
                  have isg := isg.fr f5 id
                  have isp := isp.fr f5 id
                  have isv := isv.fr f5 id
                  have hown := wide_fr hown f5 fun _ _ => id
                  have fr := fr_nil fr f5
                  have g0 := ((isg.alloc (.cells #[.int .i64 (q : Nat), .int .i64 gp] 120)).cell q).trans (cellsB_at (by rw [HBL.out]; exact hql))
                  rw [HSN.out] at g0
                  go_wp2_with fail
                  go_roundw
                  case rel => exact ⟨i + 1, b, fl, A2, c2, by go_num, rfl, HBL.out, hun, HT.out, isg.alloc _, isp.alloc _, isv.alloc _, hown.alloc _, fr.alloc _⟩
                  case measure => simp [intOf]; omega
        · rw [endsL_end hie, flankI] at hT
          have HT := Lib.hid hT
          have HBL := Lib.hid hbl
          clear hT hbl
          go_wp2_with fail
          go_roundw
          case rel => exact ⟨k + 1, b, fl, A2, c2, by omega, by go_num, rfl, HBL.out, hun, HT.out, isg, isp, hown, fr⟩
          case measure => simp [intOf]; omega
    · rw [List.drop_eq_nil_of_le (by omega)] at hT
      have hT2 : (b, fl) = T := hT
      subst hT2
      clear hT
      go_wp2_with fail
      go_ret
      exact ⟨A2, c2, rfl, hown, fr⟩
end Go.Proofs.Ytnnacdkijeoeoaa


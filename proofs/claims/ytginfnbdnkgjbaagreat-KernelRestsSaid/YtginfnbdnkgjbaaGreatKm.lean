/- Contracts and plain mathematics of earlier stages: Rfl. -/
import Derived.Test.YtginfnbdnkgjbaaGreatKq
import Derived.Test.YtginfnbdnkgjbaaGreatKw
import Derived.Deep.LoopGhost
import Derived.Test.YtginfnbdnkgjbaaGreatKu
namespace Go.Proofs.YtginfnbdnkgjbaaGreat
open Go.RowKit

set_option maxRecDepth 100000 in
set_option maxHeartbeats 8000000 in
theorem rflank_any (C : Cm) (ap : Int) {A : Option Addr} {c : Nat} (path : List St) (w : World) (h : C.Ok w) (hp : Rd w A (cellsT path)) (hl : path.length ≤ 4294967296) :
    Calls Tryz.prog 64 #[C.val, .int .i64 ap, .slice A path.length c] w (Needs w (flankM C.l C.js ap path)) := by
  rw [flank_ref]
  unfold rflankM
  generalize hT : rflankO C.l C.js (secsOf path) ap path ([], []) = T
  have HT := Lib.hid hT
  clear hT
  have hb2 := h.b2
  have KK := fun s W (f : Fr (fun _ => False) w W) => rkind_any C s W (h.fr f)
  have KN := fun s e W (f : Fr (fun _ => False) w W) => rnext_any (c := C.c2) s e W (h.jos.fr f fun _ _ => id) (by omega)
  have KS : ∀ W, Fr (fun _ => False) w W → Calls Tryz.prog 68 #[.slice A path.length c] W (Nums W (secsOf path)) := fun W f => by
    have k := secsL_any (c := c) path W (hp.fr f fun _ _ => id) (by omega)
    rw [secsL_map] at k
    exact k
  have hpl : (secsOf path).length ≤ 9223372036854775807 := by unfold secsOf; rw [List.length_map]; omega
  generalize secsOf path = ps at *
  obtain ⟨i0, hi0, hz0, hz1, hz2⟩ := info_parts Tryz.infoN
  obtain ⟨j0, hj0, hy0, hy1, hy2⟩ := info_parts Tryz.infoI6
  have F := (Fr.refl (fun _ => False) w).alloc (.cells C.arr 30)
  have isC := Is.new w 30 C.arr
  unfold Cm.val at KK ⊢
  unfold Cm.arr at KK F isC ⊢
  go_enter Tryz.func64, Tryz.ntmps64
  go_wp2_with fail
  go_loopg [7, 8, 10, 11, 12, 13, 14, 15, 18] path.length (fun gi v7 v8 _ _ _ _ _ _ v18 wr => ∃ (k : Nat) (ls : List Int) (fl : List Nd) (A7 : Option Addr) (c7 : Nat) (A8 : Option Addr) (c8 : Nat), k ≤ path.length ∧ gi = path.length - k ∧ v18 = .int .i64 (k : Nat) ∧ v7 = .slice A7 fl.length c7 ∧ v8 = .slice A8 ls.length c8 ∧ Hid (ls.length = fl.length) ∧ fl.length ≤ 4 * k ∧
      rflankO C.l C.js ps ap (path.drop k) (ls, fl) = T ∧ Is wr w.heap.size 30 C.arr ∧ wr.ownsRow w.heap.size 109 2 (.slice A7 fl.length c7) fl.length (cellsN fl) ∧ wr.ownsRow w.heap.size 3 1 (.slice A8 ls.length c8) ls.length (ls.map (Value.int .i64)) ∧ Fr (fun _ => False) w wr)
  case atStart => exact ⟨0, [], [], none, 0, none, 0, Nat.zero_le _, rfl, rfl, rfl, rfl, Lib.hid rfl, by simp, HT.out, isC, World.ownsRow_nil _ _ _ _, World.ownsRow_nil _ _ _ _, F⟩
  case round =>
    clear HT F isC
    obtain ⟨k, ls, fl, A7, c7, A8, c8, hk, rfl, rfl, rfl, rfl, hle, hfl, hT, isC, own7, own8, F⟩ := hrel
    by_cases hlt : k < path.length
    · obtain ⟨ga, oa, hA, q0, q1, q2⟩ := rd_st (hp.fr F fun _ _ => id) hlt
      rw [List.drop_eq_getElem_cons hlt, rflankO] at hT
      generalize path[k] = x at *
      have hkd := KK x.sec
      have KE := fun W => rends_any (rkind C.l x.sec) W
      have hm4 := ends_bd (rkind C.l x.sec)
      generalize endsM (rkind C.l x.sec) = m at *
      generalize rkind C.l x.sec = kd at *
      have hT2 : rflankO C.l C.js ps ap (path.drop (k + 1)) (rflankI C.l C.js ps ap x ((endsL m).drop 0) (ls, fl)) = T := hT
      have HT := Lib.hid hT2
      have HA := Lib.hid hA
      have i1 : (0 : Int) ≤ (k : Int) := by omega
      have i2 : (k : Int) < (path.length : Int) := by omega
      rw [hA]
      clear hT hT2 hA
      go_upto_region 6 with (fail)
      have F1 := F.alloc (.cells #[.int .i64 x.sec, .int .i64 x.inn, .int .i64 x.out] 76)
      have isC1 := isC.alloc (.cells #[.int .i64 x.sec, .int .i64 x.inn, .int .i64 x.out] 76)
      have ist1 := Is.new wr 76 #[.int .i64 x.sec, .int .i64 x.inn, .int .i64 x.out]
      have own71 := own7.alloc (.cells #[.int .i64 x.sec, .int .i64 x.inn, .int .i64 x.out] 76)
      have own81 := own8.alloc (.cells #[.int .i64 x.sec, .int .i64 x.inn, .int .i64 x.out] 76)
      clear F isC own7 own8 q0 q1 q2
      generalize wr.alloc _ = w1 at *
      generalize wr.heap.size = tb at *
      obtain ⟨p0, p1, p2, p3, p4, p5, p6, p7, p8⟩ := conf_cells isC1
      have t0 : w1.cell? ⟨tb, 0, none⟩ = some (.int .i64 x.sec) := ist1.cell 0
      go_wp2_with fail
      refine (hkd _ F1).mono ?_
      clear hkd p0 p1 p2 p3 p4 p5 p6 p7 p8 t0
      rintro _ w2 ⟨rfl, f2⟩
      have F2 := fr_nil F1 f2
      have isC2 := isC1.fr f2 id
      have ist2 := ist1.fr f2 id
      have own72 := wide_fr own71 f2 fun _ _ => id
      have own82 := wide_fr own81 f2 fun _ _ => id
      clear F1 f2 isC1 ist1 own71 own81
      go_wp2_with fail
      go_loopg [7, 8, 12, 13, 14, 15] m.toNat (fun gi v7 v8 v12 _ _ _ wi => ∃ (i : Nat) (ls : List Int) (fl : List Nd) (A7 : Option Addr) (c7 : Nat) (A8 : Option Addr) (c8 : Nat), i ≤ m.toNat ∧ gi = m.toNat - i ∧ v12 = .int .i64 (i : Nat) ∧ v7 = .slice A7 fl.length c7 ∧ v8 = .slice A8 ls.length c8 ∧ Hid (ls.length = fl.length) ∧ fl.length ≤ 4 * k + i ∧
          rflankO C.l C.js ps ap (path.drop (k + 1)) (rflankI C.l C.js ps ap x ((endsL m).drop i) (ls, fl)) = T ∧ Is wi w.heap.size 30 C.arr ∧ Is wi tb 76 #[.int .i64 x.sec, .int .i64 x.inn, .int .i64 x.out] ∧ wi.ownsRow w.heap.size 109 2 (.slice A7 fl.length c7) fl.length (cellsN fl) ∧ wi.ownsRow w.heap.size 3 1 (.slice A8 ls.length c8) ls.length (ls.map (Value.int .i64)) ∧ Fr (fun _ => False) w wi)
      case atStart => exact ⟨0, ls, fl, A7, c7, A8, c8, Nat.zero_le _, rfl, rfl, rfl, rfl, hle, by omega, HT.out, isC2, ist2, own72, own82, F2⟩
      case round =>
        clear F2 isC2 ist2 own72 own82 HT hle hfl
        obtain ⟨i, ls, fl, A7, c7, A8, c8, hi, rfl, rfl, rfl, rfl, hle, hfl, hT, isC, ist, own7, own8, F⟩ := hrel
        by_cases hie : (i : Int) < m
        · rw [endsL_drop hie, rflankI] at hT
          have d0 : decide ((i : Int) < m) = true := by rw [decide_eq_true_eq]; exact hie
          have HT0 := Lib.hid hT
          clear hT
          go_wp2_with fail
          refine (KE _).mono ?_
          clear KE
          rintro _ w3 ⟨rfl, f3⟩
          have F4 := fr_nil F f3
          have isC4 := isC.fr f3 id
          have ist4 := ist.fr f3 id
          have own74 := wide_fr own7 f3 fun _ _ => id
          have own84 := wide_fr own8 f3 fun _ _ => id
          clear F isC ist own7 own8 f3
          have hT := HT0.out
          clear HT0
          have fK := Fr.refl (fun _ => False) w3
          have t0 : w3.cell? ⟨tb, 0, none⟩ = some (.int .i64 x.sec) := ist4.cell 0
          have t1 : w3.cell? ⟨tb, 1, none⟩ = some (.int .i64 x.inn) := ist4.cell 1
          have t2 : w3.cell? ⟨tb, 2, none⟩ = some (.int .i64 x.out) := ist4.cell 2
          unfold rflankE at hT
          by_cases c1 : (i : Int) = x.inn
          · have e1 : ((i : Int) == x.inn) = true := by simp [c1]
            rw [if_pos (by simp [c1])] at hT
            have HT := Lib.hid hT
            clear hT c1
            go_wp2_with fail
            have isC9 := isC4.fr fK id
            have ist9 := ist4.fr fK id
            have own79 := wide_fr own74 fK fun _ _ => id
            have own89 := wide_fr own84 fK fun _ _ => id
            have F9 := fr_nil F4 fK
            go_roundg (m.toNat - (i + 1))
            case measure => omega
            case rel => exact ⟨i + 1, ls, fl, A7, c7, A8, c8, by omega, rfl, by go_num, rfl, rfl, hle, by omega, HT.out, isC9, ist9, own79, own89, F9⟩
          have e1 : ((i : Int) == x.inn) = false := by simp [c1]
          by_cases c2' : (i : Int) = x.out
          · have e2 : ((i : Int) == x.out) = true := by simp [c2']
            rw [if_pos (by simp [c2'])] at hT
            have HT := Lib.hid hT
            clear hT c1 c2'
            go_wp2_with fail
            have isC9 := isC4.fr fK id
            have ist9 := ist4.fr fK id
            have own79 := wide_fr own74 fK fun _ _ => id
            have own89 := wide_fr own84 fK fun _ _ => id
            have F9 := fr_nil F4 fK
            go_roundg (m.toNat - (i + 1))
            case measure => omega
            case rel => exact ⟨i + 1, ls, fl, A7, c7, A8, c8, by omega, rfl, by go_num, rfl, rfl, hle, by omega, HT.out, isC9, ist9, own79, own89, F9⟩
          have e2 : ((i : Int) == x.out) = false := by simp [c2']
          rw [if_neg (by simp [c1, c2'])] at hT
          clear c1 c2'
          unfold rflankOk guardN at hT
          have KNi := KN x.sec (i : Int) w3 F4
          generalize nextS C.js x.sec (i : Int) = q at *
          generalize nextE C.js x.sec (i : Int) = E at *
          obtain ⟨p0, p1, p2, p3, p4, p5, p6, p7, p8⟩ := conf_cells isC4
          have HT0 := Lib.hid hT
          clear hT
          go_wp2_with fail
          refine KNi.mono ?_
          clear KNi p0 p1 p2 p3 p4 p5 p6 p7 p8 t0 t1 t2 fK
          rintro _ w5 ⟨rfl, fK⟩
          have hT := HT0.out
          clear HT0
          cases hok : nextOk C.js x.sec (i : Int)
          · rw [hok, Bool.false_and, if_neg (by decide)] at hT
            have HT := Lib.hid hT
            clear hT hok
            go_wp2_with fail
            have isC9 := isC4.fr fK id
            have ist9 := ist4.fr fK id
            have own79 := wide_fr own74 fK fun _ _ => id
            have own89 := wide_fr own84 fK fun _ _ => id
            have F9 := fr_nil F4 fK
            go_roundg (m.toNat - (i + 1))
            case measure => omega
            case rel => exact ⟨i + 1, ls, fl, A7, c7, A8, c8, by omega, rfl, by go_num, rfl, rfl, hle, by omega, HT.out, isC9, ist9, own79, own89, F9⟩
          rw [hok, Bool.true_and] at hT
          clear hok
          obtain ⟨p0, p1, p2, p3, p4, p5, p6, p7, p8⟩ := conf_cells (isC4.fr fK id)
          have HT0 := Lib.hid hT
          clear hT
          go_wp2_with fail
          refine (KK q _ (fr_nil F4 fK)).mono ?_
          clear p0 p1 p2 p3 p4 p5 p6 p7 p8
          rintro _ w6 ⟨rfl, f6⟩
          have fK := fr_nil fK f6
          have hT := HT0.out
          clear HT0 f6
          generalize rkind C.l q = kq at *
          by_cases hk1 : kq = 1
          rotate_left
          · have e3 : (kq != 1) = true := by simpa [bne_iff_ne] using hk1
            rw [if_neg (by simp [hk1])] at hT
            have HT := Lib.hid hT
            clear hT hk1
            go_wp2_with fail
            have isC9 := isC4.fr fK id
            have ist9 := ist4.fr fK id
            have own79 := wide_fr own74 fK fun _ _ => id
            have own89 := wide_fr own84 fK fun _ _ => id
            have F9 := fr_nil F4 fK
            go_roundg (m.toNat - (i + 1))
            case measure => omega
            case rel => exact ⟨i + 1, ls, fl, A7, c7, A8, c8, by omega, rfl, by go_num, rfl, rfl, hle, by omega, HT.out, isC9, ist9, own79, own89, F9⟩
          subst hk1
          rw [decide_eq_true rfl, Bool.true_and] at hT
          by_cases hE : E = 1 ∨ E = 2
          rotate_left
          · have e4 : (E != 1) = true := by rw [bne_iff_ne]; omega
            have e5 : (E != 2) = true := by rw [bne_iff_ne]; omega
            rw [if_neg (by simp; omega)] at hT
            have HT := Lib.hid hT
            clear hT hE
            go_wp2_with fail
            have isC9 := isC4.fr fK id
            have ist9 := ist4.fr fK id
            have own79 := wide_fr own74 fK fun _ _ => id
            have own89 := wide_fr own84 fK fun _ _ => id
            have F9 := fr_nil F4 fK
            go_roundg (m.toNat - (i + 1))
            case measure => omega
            case rel => exact ⟨i + 1, ls, fl, A7, c7, A8, c8, by omega, rfl, by go_num, rfl, rfl, hle, by omega, HT.out, isC9, ist9, own79, own89, F9⟩
          rcases hE with rfl | rfl
          · rw [show (decide ((1 : Int) = 1) || decide ((1 : Int) = 2)) = true from rfl, Bool.true_and] at hT
            have HT0 := Lib.hid hT
            clear hT
            go_wp2_with fail
            have KS2 := KS _ (fr_nil F4 fK)
            rw [HA.out] at KS2
            refine KS2.mono ?_
            clear KS2
            rintro _ w7 ⟨A9, c9, rfl, own9, f7⟩
            go_wp2_with fail
            refine (rin_any (c := c9) ps q w7 (wide_rd own9) hpl).mono ?_
            rintro _ w8 ⟨rfl, f8⟩
            have fK := fr_nil (fr_nil fK f7) f8
            have hT := HT0.out
            clear HT0 f7 f8 own9
            cases hin : inL ps q
            rotate_left
            · rw [if_neg (by simp [hin])] at hT
              have HT := Lib.hid hT
              clear hT hin
              go_wp2_with fail
              have isC9 := isC4.fr fK id
              have ist9 := ist4.fr fK id
              have own79 := wide_fr own74 fK fun _ _ => id
              have own89 := wide_fr own84 fK fun _ _ => id
              have F9 := fr_nil F4 fK
              go_roundg (m.toNat - (i + 1))
              case measure => omega
              case rel => exact ⟨i + 1, ls, fl, A7, c7, A8, c8, by omega, rfl, by go_num, rfl, rfl, hle, by omega, HT.out, isC9, ist9, own79, own89, F9⟩
            rw [hin, Bool.not_false, Bool.true_and] at hT
            clear hin
            by_cases hqa : q = ap
            · have e6 : (q == ap) = true := by simpa using hqa
              rw [if_neg (by simp [hqa])] at hT
              have HT := Lib.hid hT
              clear hT hqa
              go_wp2_with fail
              have isC9 := isC4.fr fK id
              have ist9 := ist4.fr fK id
              have own79 := wide_fr own74 fK fun _ _ => id
              have own89 := wide_fr own84 fK fun _ _ => id
              have F9 := fr_nil F4 fK
              go_roundg (m.toNat - (i + 1))
              case measure => omega
              case rel => exact ⟨i + 1, ls, fl, A7, c7, A8, c8, by omega, rfl, by go_num, rfl, rfl, hle, by omega, HT.out, isC9, ist9, own79, own89, F9⟩
            have e6 : (q == ap) = false := by rw [beq_eq_false_iff_ne]; exact hqa
            rw [decide_eq_false hqa, Bool.not_false, Bool.true_and] at hT
            clear hqa
            have HT0 := Lib.hid hT
            clear hT
            go_wp2_with fail
            refine (rin_any (c := c8) ls q _ (wide_rd (wide_fr own84 fK fun _ _ => id)) (by have := hle.out; omega)).mono ?_
            rintro _ w9 ⟨rfl, f9⟩
            have fK := fr_nil fK f9
            have hT := HT0.out
            clear HT0 f9
            cases hli : inL ls q
            rotate_left
            · rw [if_neg (by simp [hli])] at hT
              have HT := Lib.hid hT
              clear hT hli
              go_wp2_with fail
              have isC9 := isC4.fr fK id
              have ist9 := ist4.fr fK id
              have own79 := wide_fr own74 fK fun _ _ => id
              have own89 := wide_fr own84 fK fun _ _ => id
              have F9 := fr_nil F4 fK
              go_roundg (m.toNat - (i + 1))
              case measure => omega
              case rel => exact ⟨i + 1, ls, fl, A7, c7, A8, c8, by omega, rfl, by go_num, rfl, rfl, hle, by omega, HT.out, isC9, ist9, own79, own89, F9⟩
            rw [if_pos (by simp [hli])] at hT
            have HT := Lib.hid hT
            clear hT hli
            have isC9 := (isC4.fr fK id).alloc (.cells #[.int .i64 q] 3)
            have ist9 := (ist4.fr fK id).alloc (.cells #[.int .i64 q] 3)
            have own79 := (wide_fr own74 fK fun _ _ => id).alloc (.cells #[.int .i64 q] 3)
            have own89 := (wide_fr own84 fK fun _ _ => id).alloc (.cells #[.int .i64 q] 3)
            have F9 := (fr_nil F4 fK).alloc (.cells #[.int .i64 q] 3)
            have hlsl : ls.length ≤ 17179869184 := by have := hle.out; omega
            have hfll : fl.length ≤ 17179869184 := by omega
            have hne := wide_ne own79 own89 (by decide)
            have hlo8 := World.ownsRow.lt own89
            go_upto_region 14 with (at_builtin; refine wpList_append_wide _ rfl (.tmp 84) (.tmp 86) 25 rfl w.heap.size 3 j0 _ 1 8 Tryz.underlying25 hj0 hy0 hy1 hy2 rfl (by decide) (.slice A8 ls.length c8) ls.length (ls.map (Value.int .i64)) rfl own89 (some ⟨w9.heap.size, 0, none⟩) 1 1 [.int .i64 q] rfl rfl (lit_rd_at (by simp) _ _) (by simp [Value.oneCell']) (by unfold maxLen; omega) (by omega) F9.size ?_; intro v10 w10 own810 hg8 hat8; obtain ⟨A10, c10, rfl, _, _, _, _⟩ := wide_form own810)
            have f10 := (Fr.refl (fun j => (Value.slice A8 ls.length c8).ownBlock = some j) _).grown hg8 fun j hj => .inl hj
            have isC10 := (isC9.fr f10 (wide_is_ne own89 isC9 (by decide))).alloc (.cells #[.int .i64 q, .int .i64 2] 109)
            have ist10 := (ist9.fr f10 (wide_is_ne own89 ist9 (by decide))).alloc (.cells #[.int .i64 q, .int .i64 2] 109)
            have own710 := (wide_fr own79 f10 hne).alloc (.cells #[.int .i64 q, .int .i64 2] 109)
            have own810 := own810.alloc (.cells #[.int .i64 q, .int .i64 2] 109)
            have F10 := (F9.grown hg8 fun j hj => .inr (hlo8 j hj).1).alloc (.cells #[.int .i64 q, .int .i64 2] 109)
            have hne2 := wide_ne own810 own710 (by decide)
            have hlo7 := World.ownsRow.lt own710
            clear f10 hg8 hat8 isC9 ist9 own79 own89 F9 hne hlo8
            go_wp2_with (at_builtin; refine wpList_append_wide _ rfl (.tmp 88) (.tmp 93) 72 rfl w.heap.size 109 i0 _ 2 16 Tryz.underlying72 hi0 hz0 hz1 hz2 rfl (by decide) (.slice A7 fl.length c7) fl.length (cellsN fl) rfl own710 (some ⟨w10.heap.size, 0, none⟩) 1 1 [.int .i64 q, .int .i64 2] rfl rfl (lit_rd_at (by simp) _ _) (by simp [Value.oneCell']) (by unfold maxLen; omega) (by omega) F10.size ?_; intro v11 w11 own711 hg7 hat7; obtain ⟨A11, c11, rfl, _, _, _, _⟩ := wide_form own711)
            have f11 := (Fr.refl (fun j => (Value.slice A7 fl.length c7).ownBlock = some j) _).grown hg7 fun j hj => .inl hj
            have isC11 := isC10.fr f11 (wide_is_ne own710 isC10 (by decide))
            have ist11 := ist10.fr f11 (wide_is_ne own710 ist10 (by decide))
            have own811 := wide_fr own810 f11 hne2
            have F11 := F10.grown hg7 fun j hj => .inr (hlo7 j hj).1
            clear f11 hg7 hat7 isC10 ist10 own710 own810 F10 hne2 hlo7
            go_wp2_with fail
            go_roundg (m.toNat - (i + 1))
            case measure => omega
            case rel => exact ⟨i + 1, ls ++ [q], fl ++ [⟨q, 2⟩], A11, c11, A10, c10, by omega, rfl, by go_num, by rw [List.length_append]; rfl, by rw [List.length_append]; rfl, Lib.hid (by rw [List.length_append, List.length_append, hle.out]; rfl), by rw [List.length_append, List.length_singleton]; omega, HT.out, isC11, ist11, by rw [List.length_append, cellsN_snoc]; exact own711, by rw [List.length_append, List.map_append]; exact own811, F11⟩
          · rw [show (decide ((2 : Int) = 1) || decide ((2 : Int) = 2)) = true from rfl, Bool.true_and] at hT
            have HT0 := Lib.hid hT
            clear hT
            go_wp2_with fail
            have KS2 := KS _ (fr_nil F4 fK)
            rw [HA.out] at KS2
            refine KS2.mono ?_
            clear KS2
            rintro _ w7 ⟨A9, c9, rfl, own9, f7⟩
            go_wp2_with fail
            refine (rin_any (c := c9) ps q w7 (wide_rd own9) hpl).mono ?_
            rintro _ w8 ⟨rfl, f8⟩
            have fK := fr_nil (fr_nil fK f7) f8
            have hT := HT0.out
            clear HT0 f7 f8 own9
            cases hin : inL ps q
            rotate_left
            · rw [if_neg (by simp [hin])] at hT
              have HT := Lib.hid hT
              clear hT hin
              go_wp2_with fail
              have isC9 := isC4.fr fK id
              have ist9 := ist4.fr fK id
              have own79 := wide_fr own74 fK fun _ _ => id
              have own89 := wide_fr own84 fK fun _ _ => id
              have F9 := fr_nil F4 fK
              go_roundg (m.toNat - (i + 1))
              case measure => omega
              case rel => exact ⟨i + 1, ls, fl, A7, c7, A8, c8, by omega, rfl, by go_num, rfl, rfl, hle, by omega, HT.out, isC9, ist9, own79, own89, F9⟩
            rw [hin, Bool.not_false, Bool.true_and] at hT
            clear hin
            by_cases hqa : q = ap
            · have e6 : (q == ap) = true := by simpa using hqa
              rw [if_neg (by simp [hqa])] at hT
              have HT := Lib.hid hT
              clear hT hqa
              go_wp2_with fail
              have isC9 := isC4.fr fK id
              have ist9 := ist4.fr fK id
              have own79 := wide_fr own74 fK fun _ _ => id
              have own89 := wide_fr own84 fK fun _ _ => id
              have F9 := fr_nil F4 fK
              go_roundg (m.toNat - (i + 1))
              case measure => omega
              case rel => exact ⟨i + 1, ls, fl, A7, c7, A8, c8, by omega, rfl, by go_num, rfl, rfl, hle, by omega, HT.out, isC9, ist9, own79, own89, F9⟩
            have e6 : (q == ap) = false := by rw [beq_eq_false_iff_ne]; exact hqa
            rw [decide_eq_false hqa, Bool.not_false, Bool.true_and] at hT
            clear hqa
            have HT0 := Lib.hid hT
            clear hT
            go_wp2_with fail
            refine (rin_any (c := c8) ls q _ (wide_rd (wide_fr own84 fK fun _ _ => id)) (by have := hle.out; omega)).mono ?_
            rintro _ w9 ⟨rfl, f9⟩
            have fK := fr_nil fK f9
            have hT := HT0.out
            clear HT0 f9
            cases hli : inL ls q
            rotate_left
            · rw [if_neg (by simp [hli])] at hT
              have HT := Lib.hid hT
              clear hT hli
              go_wp2_with fail
              have isC9 := isC4.fr fK id
              have ist9 := ist4.fr fK id
              have own79 := wide_fr own74 fK fun _ _ => id
              have own89 := wide_fr own84 fK fun _ _ => id
              have F9 := fr_nil F4 fK
              go_roundg (m.toNat - (i + 1))
              case measure => omega
              case rel => exact ⟨i + 1, ls, fl, A7, c7, A8, c8, by omega, rfl, by go_num, rfl, rfl, hle, by omega, HT.out, isC9, ist9, own79, own89, F9⟩
            rw [if_pos (by simp [hli])] at hT
            have HT := Lib.hid hT
            clear hT hli
            have isC9 := (isC4.fr fK id).alloc (.cells #[.int .i64 q] 3)
            have ist9 := (ist4.fr fK id).alloc (.cells #[.int .i64 q] 3)
            have own79 := (wide_fr own74 fK fun _ _ => id).alloc (.cells #[.int .i64 q] 3)
            have own89 := (wide_fr own84 fK fun _ _ => id).alloc (.cells #[.int .i64 q] 3)
            have F9 := (fr_nil F4 fK).alloc (.cells #[.int .i64 q] 3)
            have hlsl : ls.length ≤ 17179869184 := by have := hle.out; omega
            have hfll : fl.length ≤ 17179869184 := by omega
            have hne := wide_ne own79 own89 (by decide)
            have hlo8 := World.ownsRow.lt own89
            go_upto_region 14 with (at_builtin; refine wpList_append_wide _ rfl (.tmp 84) (.tmp 86) 25 rfl w.heap.size 3 j0 _ 1 8 Tryz.underlying25 hj0 hy0 hy1 hy2 rfl (by decide) (.slice A8 ls.length c8) ls.length (ls.map (Value.int .i64)) rfl own89 (some ⟨w9.heap.size, 0, none⟩) 1 1 [.int .i64 q] rfl rfl (lit_rd_at (by simp) _ _) (by simp [Value.oneCell']) (by unfold maxLen; omega) (by omega) F9.size ?_; intro v10 w10 own810 hg8 hat8; obtain ⟨A10, c10, rfl, _, _, _, _⟩ := wide_form own810)
            have f10 := (Fr.refl (fun j => (Value.slice A8 ls.length c8).ownBlock = some j) _).grown hg8 fun j hj => .inl hj
            have isC10 := (isC9.fr f10 (wide_is_ne own89 isC9 (by decide))).alloc (.cells #[.int .i64 q, .int .i64 1] 109)
            have ist10 := (ist9.fr f10 (wide_is_ne own89 ist9 (by decide))).alloc (.cells #[.int .i64 q, .int .i64 1] 109)
            have own710 := (wide_fr own79 f10 hne).alloc (.cells #[.int .i64 q, .int .i64 1] 109)
            have own810 := own810.alloc (.cells #[.int .i64 q, .int .i64 1] 109)
            have F10 := (F9.grown hg8 fun j hj => .inr (hlo8 j hj).1).alloc (.cells #[.int .i64 q, .int .i64 1] 109)
            have hne2 := wide_ne own810 own710 (by decide)
            have hlo7 := World.ownsRow.lt own710
            clear f10 hg8 hat8 isC9 ist9 own79 own89 F9 hne hlo8
            go_wp2_with (at_builtin; refine wpList_append_wide _ rfl (.tmp 88) (.tmp 93) 72 rfl w.heap.size 109 i0 _ 2 16 Tryz.underlying72 hi0 hz0 hz1 hz2 rfl (by decide) (.slice A7 fl.length c7) fl.length (cellsN fl) rfl own710 (some ⟨w10.heap.size, 0, none⟩) 1 1 [.int .i64 q, .int .i64 1] rfl rfl (lit_rd_at (by simp) _ _) (by simp [Value.oneCell']) (by unfold maxLen; omega) (by omega) F10.size ?_; intro v11 w11 own711 hg7 hat7; obtain ⟨A11, c11, rfl, _, _, _, _⟩ := wide_form own711)
            have f11 := (Fr.refl (fun j => (Value.slice A7 fl.length c7).ownBlock = some j) _).grown hg7 fun j hj => .inl hj
            have isC11 := isC10.fr f11 (wide_is_ne own710 isC10 (by decide))
            have ist11 := ist10.fr f11 (wide_is_ne own710 ist10 (by decide))
            have own811 := wide_fr own810 f11 hne2
            have F11 := F10.grown hg7 fun j hj => .inr (hlo7 j hj).1
            clear f11 hg7 hat7 isC10 ist10 own710 own810 F10 hne2 hlo7
            go_wp2_with fail
            go_roundg (m.toNat - (i + 1))
            case measure => omega
            case rel => exact ⟨i + 1, ls ++ [q], fl ++ [⟨q, 1⟩], A11, c11, A10, c10, by omega, rfl, by go_num, by rw [List.length_append]; rfl, by rw [List.length_append]; rfl, Lib.hid (by rw [List.length_append, List.length_append, hle.out]; rfl), by rw [List.length_append, List.length_singleton]; omega, HT.out, isC11, ist11, by rw [List.length_append, cellsN_snoc]; exact own711, by rw [List.length_append, List.map_append]; exact own811, F11⟩
        · rw [endsL_end hie] at hT
          have hT2 : rflankO C.l C.js ps ap (path.drop (k + 1)) (ls, fl) = T := hT
          have HT := Lib.hid hT2
          have d0 : decide ((i : Int) < m) = false := by rw [decide_eq_false_iff_not]; exact hie
          clear hT hT2
          go_wp2_with fail
          refine (KE _).mono ?_
          rintro _ w3 ⟨rfl, f3⟩
          have F4 := fr_nil F f3
          have isC4 := isC.fr f3 id
          have own74 := wide_fr own7 f3 fun _ _ => id
          have own84 := wide_fr own8 f3 fun _ _ => id
          rw [← HA.out]
          go_wp2_with fail
          go_roundg (path.length - (k + 1))
          case measure => omega
          case rel => exact ⟨k + 1, ls, fl, A7, c7, A8, c8, by omega, rfl, by go_num, rfl, rfl, hle, by omega, HT.out, isC4, own74, own84, F4⟩
    · rw [List.drop_eq_nil_of_le (by omega), rflankO] at hT
      subst hT
      go_wp2_with fail
      go_ret
      exact ⟨A7, c7, rfl, own7, F⟩
end Go.Proofs.YtginfnbdnkgjbaaGreat


/- The walk of TeleBack. Its middle is written by gen/back.py. -/
import Derived.Test.YtmohefkingnknaaTopen
import Derived.Test.YtmohefkingnknaaTlives
import Derived.Test.YtmohefkingnknaaTror
import Derived.Test.YtmohefkingnknaaTblock
import Derived.Test.YtmohefkingnknaaTsame
import Derived.Test.YtmohefkingnknaaTbytesw
import Derived.Deep.Cut
namespace Go.Proofs.Ytmohefkingnknaa.Te
open Go.RowKit

theorem bl_ok {a d g : Int} {y : List UInt8} (h : blL a d g = (y, 0)) : rblL y = (⟨a, d, g⟩, 0) := by
  unfold blL at h
  by_cases ho : blOk a d g = true
  · rw [if_pos ho] at h
    injection h with h
    rw [← h]
    exact rbl_bl ho
  · rw [if_neg ho] at h
    injection h with _ h
    cases h
set_option maxRecDepth 100000 in
set_option maxHeartbeats 4000000 in
theorem back_walk (h : Sta) (t : Tol) (s : ByteArray) (w : World) (hh : h.Ok w) (hs : t.s.Ok w) (ho : t.o.Ok w) :
    Calls Try.prog 4 #[h.val, t.val, .string s] w fun e w' => e = .returned (.bool true) ∧ Below w.heap.size w w' := by
  have hsh := hh.sh
  have KL := fun W => lives_any W
  have KS := fun (W : World) (k : t.s.Ok W) => status_any hsh k
  have KO := fun (W : World) (k : t.o.Ok W) => orders_any hsh k
  have KB := fun (W : World) => block_any t.b.a t.b.d t.b.g W
  have KT1 := fun (W : World) => rstatus_any hsh s W
  have KT2 := fun (W : World) => rorders_any hsh s W
  have KT3 := fun (W : World) => rblock_any s W
  have hB1 : (rstL h.sh.hs (bytesOf s)).2 = 0 → stL h.sh.hs (rstL h.sh.hs (bytesOf s)).1 = (bytesOf s, 0) := st_rst
  have hB2 : (rorL h.sh.hs (bytesOf s)).2 = 0 → orL h.sh.hs (rorL h.sh.hs (bytesOf s)).1 = (bytesOf s, 0) := or_ror
  have hB3 : (rblL (bytesOf s)).2 = 0 → blL (rblL (bytesOf s)).1.a (rblL (bytesOf s)).1.d (rblL (bytesOf s)).1.g = (bytesOf s, 0) := bl_rbl
  have n12 : (rstL h.sh.hs (bytesOf s)).2 = 0 → (rorL h.sh.hs (bytesOf s)).2 = 0 → False := fun a b => by
    have h1 := (rst_head a).1
    rw [(ror_head b).1] at h1
    injection h1 with h1
    exact absurd h1 (by decide)
  have n13 : (rstL h.sh.hs (bytesOf s)).2 = 0 → (rblL (bytesOf s)).2 = 0 → False := fun a b => by
    have h1 := (rst_head a).1
    rw [(rbl_head b).1] at h1
    injection h1 with h1
    exact absurd h1 (by decide)
  have n23 : (rorL h.sh.hs (bytesOf s)).2 = 0 → (rblL (bytesOf s)).2 = 0 → False := fun a b => by
    have h1 := (ror_head a).1
    rw [(rbl_head b).1] at h1
    injection h1 with h1
    exact absurd h1 (by decide)
  generalize rstL h.sh.hs (bytesOf s) = Z1 at *
  generalize rorL h.sh.hs (bytesOf s) = Z2 at *
  generalize rblL (bytesOf s) = Z3 at *
  obtain ⟨z1, r1⟩ := Z1
  obtain ⟨z2, r2⟩ := Z2
  obtain ⟨⟨za, zd, zg⟩, r3⟩ := Z3
  simp only at hB1 hB2 hB3 n12 n13 n23 KT1 KT2 KT3
  have KW1 := fun (x : Sta) (W : World) (k : x.Ok W) => status_any hsh k
  have KW2 := fun (x : Ods) (W : World) (k : x.Ok W) => orders_any hsh k
  have KW3 := fun (W : World) => block_any za zd zg W
  have KR1 := fun (W : World) => rstatus_any hsh ⟨(stL h.sh.hs t.s.st).1.toArray⟩ W
  have KR2 := fun (W : World) => rorders_any hsh ⟨(orL h.sh.hs t.o.st).1.toArray⟩ W
  have KR3 := fun (W : World) => rblock_any ⟨(blL t.b.a t.b.d t.b.g).1.toArray⟩ W
  rw [show bytesOf ⟨(stL h.sh.hs t.s.st).1.toArray⟩ = (stL h.sh.hs t.s.st).1 from rfl] at KR1
  rw [show bytesOf ⟨(orL h.sh.hs t.o.st).1.toArray⟩ = (orL h.sh.hs t.o.st).1 from rfl] at KR2
  rw [show bytesOf ⟨(blL t.b.a t.b.d t.b.g).1.toArray⟩ = (blL t.b.a t.b.d t.b.g).1 from rfl] at KR3
  have hA1 : (stL h.sh.hs t.s.st).2 = 0 → rstL h.sh.hs (stL h.sh.hs t.s.st).1 = (t.s.st, 0) := fun e => by
    obtain ⟨a, b⟩ := st_ok (t := (stL h.sh.hs t.s.st).1) (Prod.ext rfl e)
    rw [b]
    exact rst_st a
  have hA2 : (orL h.sh.hs t.o.st).2 = 0 → rorL h.sh.hs (orL h.sh.hs t.o.st).1 = (t.o.st, 0) := fun e => by
    obtain ⟨a, b⟩ := or_ok (t := (orL h.sh.hs t.o.st).1) (Prod.ext rfl e)
    rw [b]
    exact ror_or a
  have hA3 : (blL t.b.a t.b.d t.b.g).2 = 0 → rblL (blL t.b.a t.b.d t.b.g).1 = (⟨t.b.a, t.b.d, t.b.g⟩, 0) := fun e => bl_ok (Prod.ext rfl e)
  generalize rstL h.sh.hs (stL h.sh.hs t.s.st).1 = U1 at *
  generalize rorL h.sh.hs (orL h.sh.hs t.o.st).1 = U2 at *
  generalize rblL (blL t.b.a t.b.d t.b.g).1 = U3 at *
  generalize hY1 : stL h.sh.hs t.s.st = Y1 at KS KR1 hA1
  generalize hY2 : orL h.sh.hs t.o.st = Y2 at KO KR2 hA2
  generalize hY3 : blL t.b.a t.b.d t.b.g = Y3 at KB KR3 hA3
  clear hY1 hY2 hY3
  obtain ⟨y1, e1⟩ := Y1
  obtain ⟨y2, e2⟩ := Y2
  obtain ⟨y3, e3⟩ := Y3
  obtain ⟨u1, v1⟩ := U1
  obtain ⟨u2, v2⟩ := U2
  obtain ⟨u3, v3⟩ := U3
  simp only [Prod.mk.injEq] at KS KO KB KR1 KR2 KR3 hA1 hA2 hA3
  generalize (⟨y1.toArray⟩ : ByteArray) = x1 at *
  generalize (⟨y2.toArray⟩ : ByteArray) = x2 at *
  generalize (⟨y3.toArray⟩ : ByteArray) = x3 at *
  have q1 : (s.toList == s.toList) = true := by simp
  have HA1 := Lib.hid hA1
  have HA2 := Lib.hid hA2
  have HA3 := Lib.hid hA3
  have HB1 := Lib.hid hB1
  have HB2 := Lib.hid hB2
  have HB3 := Lib.hid hB3
  obtain ⟨c1, hc1⟩ : ∃ c : Nat, c = if r1 = 0 then 1 else 0 := ⟨_, rfl⟩
  obtain ⟨c2, hc2⟩ : ∃ c : Nat, c = c1 + if r2 = 0 then 1 else 0 := ⟨_, rfl⟩
  obtain ⟨c3, hc3⟩ : ∃ c : Nat, c = c2 + if r3 = 0 then 1 else 0 := ⟨_, rfl⟩
  have HC1 : Hid (r1 = 0 → c1 = 1) := Lib.hid fun e => by rw [hc1, if_pos e]
  have HD1 : Hid (¬ r1 = 0 → c1 = 0) := Lib.hid fun e => by rw [hc1, if_neg e]
  have HC2 : Hid (r2 = 0 → c2 = c1 + 1) := Lib.hid fun e => by rw [hc2, if_pos e]
  have HD2 : Hid (¬ r2 = 0 → c2 = c1) := Lib.hid fun e => by rw [hc2, if_neg e]; rfl
  have HC3 : Hid (r3 = 0 → c3 = c2 + 1) := Lib.hid fun e => by rw [hc3, if_pos e]
  have HD3 : Hid (¬ r3 = 0 → c3 = c2) := Lib.hid fun e => by rw [hc3, if_neg e]; rfl
  have hle : c3 ≤ 1 := by
    rw [hc3, hc2, hc1]
    by_cases a : r1 = 0
    · rw [if_pos a, if_neg (n12 a), if_neg (n13 a)]
      omega
    · rw [if_neg a]
      by_cases b : r2 = 0
      · rw [if_pos b, if_neg (n23 b)]
        omega
      · rw [if_neg b]
        split <;> omega
  have hl1 : c1 ≤ 1 := by rw [hc1]; split <;> omega
  have hl2 : c2 ≤ 2 := by rw [hc2]; split <;> omega
  clear hc1 hc2 hc3 hA1 hA2 hA3 hB1 hB2 hB3 n12 n13 n23
  have fa := (Fr.refl (fun _ => False) w).alloc (.cells h.cells.toArray 24)
  have fb := fa.alloc (.cells t.cells.toArray 32)
  have ih : Is ((w.alloc (.cells h.cells.toArray 24)).alloc (.cells t.cells.toArray 32)) w.heap.size 24 h.cells.toArray := (Is.new _ _ _).alloc _
  have it : Is ((w.alloc (.cells h.cells.toArray 24)).alloc (.cells t.cells.toArray 32)) (w.heap.size + 1) 32 t.cells.toArray := by
    have := Is.new (w.alloc (.cells h.cells.toArray 24)) 32 t.cells.toArray
    simpa using this
  have HS := Lib.hid hs
  have HO := Lib.hid ho
  have G0 := Lib.hid fb
  have HB0 := Lib.hid ih
  have TB0 := Lib.hid it
  have P0 := Lib.hid (Fr.refl (fun _ => False) ((w.alloc (.cells h.cells.toArray 24)).alloc (.cells t.cells.toArray 32)))
  clear hh hs ho hsh fa fb ih it
  obtain ⟨⟨⟨A1, l1, k1⟩, ⟨A2, l2, k2⟩, ⟨A3, l3, k3⟩, ⟨A4, l4, k4⟩⟩, ⟨⟨P1, o1, p1⟩, ⟨P2, o2, p2⟩, ⟨P3, o3, p3⟩⟩, ⟨ba, bd, bg⟩⟩ := t
  obtain ⟨⟨S1, m1, s1⟩, ⟨S2, m2, s2⟩, ⟨S3, m3, s3⟩, ⟨S4, m4, s4⟩⟩ := h
  unfold Sta.val Tol.val Tol.cells Sta.cells Ods.cells Sta.sh Sh.val Ods.val Bl.val at *
  simp only [List.cons_append, List.nil_append] at *
  go_enter Try.func4, Try.ntmps4
-- GEN
  go_wp2_with fail
  generalize (w.alloc _).alloc _ = w0 at *
  refine (KL w0).mono ?_
  rintro e w116 ⟨rfl, f116⟩
  have P116 := Lib.hid (fr_nil P0.out f116)
  clear f116 
  obtain ⟨h0, h1, h2, h3⟩ := four_cells (HB0.out.fr P116.out id)
  obtain ⟨t0, t1, t2, t3, t4, t5, t6, t7, t8, t9⟩ := ten_cells (TB0.out.fr P116.out id)
  go_wp2_with fail
  clear h0 h1 h2 h3 t0 t1 t2 t3 t4 t5 t6 t7 t8 t9
  refine (KS w116 (HS.out.fr (fr_nil G0.out P116.out))).mono ?_
  rintro e w117 ⟨rfl, f117⟩
  have P117 := Lib.hid (fr_nil P116.out f117)
  clear f117  P116
  go_upto_if 37 with fail
  go_cut [] from 27 (fun wx => Fr (fun _ => False) w0 wx)
  case first =>
    by_cases he : e1 = 0
    · skip
      have b1 : (e1 == 0) = true := by simp [he]
      obtain ⟨hu, hv⟩ := HA1.out he
      subst hv
      have HU := Lib.hid hu
      clear he hu
      obtain ⟨h0, h1, h2, h3⟩ := four_cells (HB0.out.fr P117.out id)
      go_wp2_with fail
      clear h0 h1 h2 h3
      refine (KR1 w117).mono ?_
      rintro e w118 ⟨⟨⟨AA0, aal0, aac0⟩, ⟨AA1, aal1, aac1⟩, ⟨AA2, aal2, aac2⟩, ⟨AA3, aal3, aac3⟩⟩, rfl, EA, OA118, f118⟩
      have P118 := Lib.hid (fr_nil P117.out f118)
      clear f118  P117
      have HEA := Lib.hid EA
      have RA118 := Lib.hid OA118
      clear EA OA118
      have RA119 := Lib.hid (RA118.out.fr ((Fr.refl (fun _ => False) w118).alloc (.cells #[.slice AA0 aal0.length aac0, .slice AA1 aal1.length aac1, .slice AA2 aal2.length aac2, .slice AA3 aal3.length aac3] 26)))
      have P119 := Lib.hid (P118.out.alloc (.cells #[.slice AA0 aal0.length aac0, .slice AA1 aal1.length aac1, .slice AA2 aal2.length aac2, .slice AA3 aal3.length aac3] 26))
      have IA119 := Lib.hid (Is.new w118 26 #[.slice AA0 aal0.length aac0, .slice AA1 aal1.length aac1, .slice AA2 aal2.length aac2, .slice AA3 aal3.length aac3])
      clear RA118 P118
      obtain ⟨t0, t1, t2, t3, t4, t5, t6, t7, t8, t9⟩ := ten_cells (TB0.out.fr P119.out id)
      obtain ⟨a0, a1, a2, a3⟩ := four_cells IA119.out
      go_wp2_with fail
      clear t0 t1 t2 t3 t4 t5 t6 t7 t8 t9 a0 a1 a2 a3
      generalize w118.alloc (.cells #[.slice AA0 aal0.length aac0, .slice AA1 aal1.length aac1, .slice AA2 aal2.length aac2, .slice AA3 aal3.length aac3] 26) = w119 at *
      generalize w118.heap.size = bIA at *
      have KQ := samestatus_any RA119.out (HS.out.fr (fr_nil G0.out P119.out)) (HEA.out.trans HU.out)
      unfold Sta.val at KQ
      refine (KQ).mono ?_
      rintro e w120 ⟨rfl, f120⟩
      have IA120 := Lib.hid (IA119.out.fr f120 id)
      have RA120 := Lib.hid (RA119.out.fr f120)
      have P120 := Lib.hid (fr_nil P119.out f120)
      clear f120 IA119 RA119 P119
      go_wp2_with fail
      go_meet
      case rel => exact P120.out
    · skip
      have b1 : (e1 == 0) = false := by simpa using he
      clear he
      go_wp2_with fail
      go_meet
      case rel => exact P117.out
  case rest =>
    clear P117
    obtain ⟨w121, rfl⟩ : ∃ q, q = wc := ⟨_, rfl⟩
    have P121 := Lib.hid hcut
    clear hcut
    obtain ⟨h0, h1, h2, h3⟩ := four_cells (HB0.out.fr P121.out id)
    obtain ⟨t0, t1, t2, t3, t4, t5, t6, t7, t8, t9⟩ := ten_cells (TB0.out.fr P121.out id)
    go_wp2_with fail
    clear h0 h1 h2 h3 t0 t1 t2 t3 t4 t5 t6 t7 t8 t9
    refine (KO w121 (HO.out.fr (fr_nil G0.out P121.out))).mono ?_
    rintro e w122 ⟨rfl, f122⟩
    have P122 := Lib.hid (fr_nil P121.out f122)
    clear f122  P121
    go_upto_if 61 with fail
    go_cut [] from 27 (fun wx => Fr (fun _ => False) w0 wx)
    case first =>
      by_cases he : e2 = 0
      · skip
        have b1 : (e2 == 0) = true := by simp [he]
        obtain ⟨hu, hv⟩ := HA2.out he
        subst hv
        have HU := Lib.hid hu
        clear he hu
        obtain ⟨h0, h1, h2, h3⟩ := four_cells (HB0.out.fr P122.out id)
        go_wp2_with fail
        clear h0 h1 h2 h3
        refine (KR2 w122).mono ?_
        rintro e w123 ⟨⟨⟨DD0, ddl0, ddc0⟩, ⟨DD1, ddl1, ddc1⟩, ⟨DD2, ddl2, ddc2⟩⟩, rfl, ED, OD123, f123⟩
        have P123 := Lib.hid (fr_nil P122.out f123)
        clear f123  P122
        have HED := Lib.hid ED
        have RD123 := Lib.hid OD123
        clear ED OD123
        have RD124 := Lib.hid (RD123.out.fr ((Fr.refl (fun _ => False) w123).alloc (.cells #[.slice DD0 ddl0.length ddc0, .slice DD1 ddl1.length ddc1, .slice DD2 ddl2.length ddc2] 28)))
        have P124 := Lib.hid (P123.out.alloc (.cells #[.slice DD0 ddl0.length ddc0, .slice DD1 ddl1.length ddc1, .slice DD2 ddl2.length ddc2] 28))
        have ID124 := Lib.hid (Is.new w123 28 #[.slice DD0 ddl0.length ddc0, .slice DD1 ddl1.length ddc1, .slice DD2 ddl2.length ddc2])
        clear RD123 P123
        obtain ⟨t0, t1, t2, t3, t4, t5, t6, t7, t8, t9⟩ := ten_cells (TB0.out.fr P124.out id)
        obtain ⟨a0, a1, a2⟩ := three_cells ID124.out
        go_wp2_with fail
        clear t0 t1 t2 t3 t4 t5 t6 t7 t8 t9 a0 a1 a2
        generalize w123.alloc (.cells #[.slice DD0 ddl0.length ddc0, .slice DD1 ddl1.length ddc1, .slice DD2 ddl2.length ddc2] 28) = w124 at *
        generalize w123.heap.size = bID at *
        have KQ := sameorders_any RD124.out (HO.out.fr (fr_nil G0.out P124.out)) (HED.out.trans HU.out)
        unfold Ods.val at KQ
        refine (KQ).mono ?_
        rintro e w125 ⟨rfl, f125⟩
        have ID125 := Lib.hid (ID124.out.fr f125 id)
        have RD125 := Lib.hid (RD124.out.fr f125)
        have P125 := Lib.hid (fr_nil P124.out f125)
        clear f125 ID124 RD124 P124
        go_wp2_with fail
        go_meet
        case rel => exact P125.out
      · skip
        have b1 : (e2 == 0) = false := by simpa using he
        clear he
        go_wp2_with fail
        go_meet
        case rel => exact P122.out
    case rest =>
      clear P122
      obtain ⟨w126, rfl⟩ : ∃ q, q = wc := ⟨_, rfl⟩
      have P126 := Lib.hid hcut
      clear hcut
      obtain ⟨t0, t1, t2, t3, t4, t5, t6, t7, t8, t9⟩ := ten_cells (TB0.out.fr P126.out id)
      go_wp2_with fail
      clear t0 t1 t2 t3 t4 t5 t6 t7 t8 t9
      refine (KB w126).mono ?_
      rintro e w127 ⟨rfl, f127⟩
      have P127 := Lib.hid (fr_nil P126.out f127)
      clear f127  P126
      go_upto_if 84 with fail
      go_cut [] from 27 (fun wx => Fr (fun _ => False) w0 wx)
      case first =>
        by_cases he : e3 = 0
        · skip
          have b1 : (e3 == 0) = true := by simp [he]
          obtain ⟨hu, hv⟩ := HA3.out he
          subst hv
          have HU := Lib.hid hu
          clear he hu
          go_wp2_with fail
          obtain ⟨ua, ud, ug⟩ := u3
          have hu := HU.out
          injection hu with hu1 hu2 hu3
          subst hu1 hu2 hu3
          refine (KR3 w127).mono ?_
          rintro e w128 ⟨rfl, f128⟩
          have P128 := Lib.hid (fr_nil P127.out f128)
          clear f128  P127
          have P129 := Lib.hid (P128.out.alloc (.cells #[.int .i64 ua, .int .i64 ud, .int .i64 ug] 30))
          have IF129 := Lib.hid (Is.new w128 30 #[.int .i64 ua, .int .i64 ud, .int .i64 ug])
          clear  P128
          obtain ⟨t0, t1, t2, t3, t4, t5, t6, t7, t8, t9⟩ := ten_cells (TB0.out.fr P129.out id)
          obtain ⟨a0, a1, a2⟩ := three_cells IF129.out
          go_wp2_with fail
          clear t0 t1 t2 t3 t4 t5 t6 t7 t8 t9 a0 a1 a2
          generalize w128.alloc (.cells #[.int .i64 ua, .int .i64 ud, .int .i64 ug] 30) = w129 at *
          generalize w128.heap.size = bIF at *
          go_meet
          case rel => exact P129.out
        · skip
          have b1 : (e3 == 0) = false := by simpa using he
          clear he
          go_wp2_with fail
          go_meet
          case rel => exact P127.out
      case rest =>
        clear P127
        obtain ⟨w130, rfl⟩ : ∃ q, q = wc := ⟨_, rfl⟩
        have P130 := Lib.hid hcut
        clear hcut
        obtain ⟨h0, h1, h2, h3⟩ := four_cells (HB0.out.fr P130.out id)
        go_wp2_with fail
        clear h0 h1 h2 h3
        refine (KT1 w130).mono ?_
        rintro e w131 ⟨⟨⟨AA0, aal0, aac0⟩, ⟨AA1, aal1, aac1⟩, ⟨AA2, aal2, aac2⟩, ⟨AA3, aal3, aac3⟩⟩, rfl, EA, OA131, f131⟩
        have P131 := Lib.hid (fr_nil P130.out f131)
        clear f131  P130
        have HEA := Lib.hid EA
        have RA131 := Lib.hid OA131
        clear EA OA131
        have RA132 := Lib.hid (RA131.out.fr ((Fr.refl (fun _ => False) w131).alloc (.cells #[.slice AA0 aal0.length aac0, .slice AA1 aal1.length aac1, .slice AA2 aal2.length aac2, .slice AA3 aal3.length aac3] 26)))
        have P132 := Lib.hid (P131.out.alloc (.cells #[.slice AA0 aal0.length aac0, .slice AA1 aal1.length aac1, .slice AA2 aal2.length aac2, .slice AA3 aal3.length aac3] 26))
        have IA132 := Lib.hid (Is.new w131 26 #[.slice AA0 aal0.length aac0, .slice AA1 aal1.length aac1, .slice AA2 aal2.length aac2, .slice AA3 aal3.length aac3])
        clear RA131 P131
        go_upto_if 105 with fail
        generalize w131.alloc (.cells #[.slice AA0 aal0.length aac0, .slice AA1 aal1.length aac1, .slice AA2 aal2.length aac2, .slice AA3 aal3.length aac3] 26) = w132 at *
        generalize w131.heap.size = bIA at *
        go_cut [17] from 27 (fun v17 wx => v17 = .int .i64 (c1 : Nat) ∧ Fr (fun _ => False) w0 wx)
        case first =>
          by_cases he : r1 = 0
          · skip
            have b1 : (r1 == 0) = true := by simp [he]
            have hc := HC1.out he
            have HCC := Lib.hid hc
            have KX := KW1 ⟨⟨AA0, aal0, aac0⟩, ⟨AA1, aal1, aac1⟩, ⟨AA2, aal2, aac2⟩, ⟨AA3, aal3, aac3⟩⟩ w132 RA132.out
            rw [HEA.out, HB1.out he] at KX
            simp only [mk_bytesOf s] at KX
            clear he hc
            obtain ⟨h0, h1, h2, h3⟩ := four_cells (HB0.out.fr P132.out id)
            obtain ⟨a0, a1, a2, a3⟩ := four_cells IA132.out
            go_wp2_with fail
            clear h0 h1 h2 h3 a0 a1 a2 a3
            refine (KX).mono ?_
            rintro e w133 ⟨rfl, f133⟩
            have IA133 := Lib.hid (IA132.out.fr f133 id)
            have RA133 := Lib.hid (RA132.out.fr f133)
            have P133 := Lib.hid (fr_nil P132.out f133)
            clear f133 IA132 RA132 P132
            go_wp2_with fail
            go_meet
            case rel => exact ⟨by rw [HCC.out]; first | rfl | go_num, P133.out⟩
          · skip
            have b1 : (r1 == 0) = false := by simpa using he
            have hc := HD1.out he
            have HCC := Lib.hid hc
            clear he hc
            go_wp2_with fail
            go_meet
            case rel => exact ⟨by first | (rw [HCC.out]; done) | (rw [HCC.out]; rfl), P132.out⟩
        case rest =>
          clear IA132 RA132 P132
          obtain ⟨rfl, hcut⟩ := hcut
          obtain ⟨w134, rfl⟩ : ∃ q, q = wc := ⟨_, rfl⟩
          have P134 := Lib.hid hcut
          clear hcut
          obtain ⟨h0, h1, h2, h3⟩ := four_cells (HB0.out.fr P134.out id)
          go_wp2_with fail
          clear h0 h1 h2 h3
          refine (KT2 w134).mono ?_
          rintro e w135 ⟨⟨⟨DD0, ddl0, ddc0⟩, ⟨DD1, ddl1, ddc1⟩, ⟨DD2, ddl2, ddc2⟩⟩, rfl, ED, OD135, f135⟩
          have P135 := Lib.hid (fr_nil P134.out f135)
          clear f135  P134
          have HED := Lib.hid ED
          have RD135 := Lib.hid OD135
          clear ED OD135
          have RD136 := Lib.hid (RD135.out.fr ((Fr.refl (fun _ => False) w135).alloc (.cells #[.slice DD0 ddl0.length ddc0, .slice DD1 ddl1.length ddc1, .slice DD2 ddl2.length ddc2] 28)))
          have P136 := Lib.hid (P135.out.alloc (.cells #[.slice DD0 ddl0.length ddc0, .slice DD1 ddl1.length ddc1, .slice DD2 ddl2.length ddc2] 28))
          have ID136 := Lib.hid (Is.new w135 28 #[.slice DD0 ddl0.length ddc0, .slice DD1 ddl1.length ddc1, .slice DD2 ddl2.length ddc2])
          clear RD135 P135
          go_upto_if 128 with fail
          generalize w135.alloc (.cells #[.slice DD0 ddl0.length ddc0, .slice DD1 ddl1.length ddc1, .slice DD2 ddl2.length ddc2] 28) = w136 at *
          generalize w135.heap.size = bID at *
          go_cut [17] from 27 (fun v17 wx => v17 = .int .i64 (c2 : Nat) ∧ Fr (fun _ => False) w0 wx)
          case first =>
            by_cases he : r2 = 0
            · skip
              have b1 : (r2 == 0) = true := by simp [he]
              have hc := HC2.out he
              have HCC := Lib.hid hc
              have KX := KW2 ⟨⟨DD0, ddl0, ddc0⟩, ⟨DD1, ddl1, ddc1⟩, ⟨DD2, ddl2, ddc2⟩⟩ w136 RD136.out
              rw [HED.out, HB2.out he] at KX
              simp only [mk_bytesOf s] at KX
              clear he hc
              obtain ⟨h0, h1, h2, h3⟩ := four_cells (HB0.out.fr P136.out id)
              obtain ⟨a0, a1, a2⟩ := three_cells ID136.out
              go_wp2_with fail
              clear h0 h1 h2 h3 a0 a1 a2
              refine (KX).mono ?_
              rintro e w137 ⟨rfl, f137⟩
              have ID137 := Lib.hid (ID136.out.fr f137 id)
              have RD137 := Lib.hid (RD136.out.fr f137)
              have P137 := Lib.hid (fr_nil P136.out f137)
              clear f137 ID136 RD136 P136
              go_wp2_with fail
              go_meet
              case rel => exact ⟨by rw [HCC.out]; first | rfl | go_num, P137.out⟩
            · skip
              have b1 : (r2 == 0) = false := by simpa using he
              have hc := HD2.out he
              have HCC := Lib.hid hc
              clear he hc
              go_wp2_with fail
              go_meet
              case rel => exact ⟨by first | (rw [HCC.out]; done) | (rw [HCC.out]; rfl), P136.out⟩
          case rest =>
            clear ID136 RD136 P136
            obtain ⟨rfl, hcut⟩ := hcut
            obtain ⟨w138, rfl⟩ : ∃ q, q = wc := ⟨_, rfl⟩
            have P138 := Lib.hid hcut
            clear hcut
            go_wp2_with fail
            refine (KT3 w138).mono ?_
            rintro e w139 ⟨rfl, f139⟩
            have P139 := Lib.hid (fr_nil P138.out f139)
            clear f139  P138
            have P140 := Lib.hid (P139.out.alloc (.cells #[.int .i64 za, .int .i64 zd, .int .i64 zg] 30))
            have IF140 := Lib.hid (Is.new w139 30 #[.int .i64 za, .int .i64 zd, .int .i64 zg])
            clear  P139
            go_upto_if 150 with fail
            generalize w139.alloc (.cells #[.int .i64 za, .int .i64 zd, .int .i64 zg] 30) = w140 at *
            generalize w139.heap.size = bIF at *
            go_cut [17] from 27 (fun v17 wx => v17 = .int .i64 (c3 : Nat) ∧ Fr (fun _ => False) w0 wx)
            case first =>
              by_cases he : r3 = 0
              · skip
                have b1 : (r3 == 0) = true := by simp [he]
                have hc := HC3.out he
                have HCC := Lib.hid hc
                have KX := KW3 w140
                rw [HB3.out he] at KX
                simp only [mk_bytesOf s] at KX
                clear he hc
                obtain ⟨a0, a1, a2⟩ := three_cells IF140.out
                go_wp2_with fail
                clear a0 a1 a2
                refine (KX).mono ?_
                rintro e w141 ⟨rfl, f141⟩
                have IF141 := Lib.hid (IF140.out.fr f141 id)
                have P141 := Lib.hid (fr_nil P140.out f141)
                clear f141 IF140 P140
                go_wp2_with fail
                go_meet
                case rel => exact ⟨by rw [HCC.out]; first | rfl | go_num, P141.out⟩
              · skip
                have b1 : (r3 == 0) = false := by simpa using he
                have hc := HD3.out he
                have HCC := Lib.hid hc
                clear he hc
                go_wp2_with fail
                go_meet
                case rel => exact ⟨by first | (rw [HCC.out]; done) | (rw [HCC.out]; rfl), P140.out⟩
            case rest =>
              clear IF140 P140
              obtain ⟨rfl, hcut⟩ := hcut
              obtain ⟨w142, rfl⟩ : ∃ q, q = wc := ⟨_, rfl⟩
              have P142 := Lib.hid hcut
              clear hcut
              have hl9 : decide ((c3 : Int) ≤ 1) = true := by simp; omega
              go_wp2_with fail
              go_ret
              exact ⟨rfl, (fr_nil G0.out P142.out).toBelow0⟩
-- DONE
end Go.Proofs.Ytmohefkingnknaa.Te

/- The walk of TeleCross. Its middle is written by gen/back.py. -/
import Derived.Test.YtmohefkingnknaaTopen
import Derived.Test.YtmohefkingnknaaTlives
import Derived.Test.YtmohefkingnknaaTror
import Derived.Test.YtmohefkingnknaaTblock
import Derived.Test.YtmohefkingnknaaTbytesw
import Derived.Test.YtmohefkingnknaaTback
import Derived.Test.YtmohefkingnknaaWide
import Derived.Deep.Cut
namespace Go.Proofs.Ytmohefkingnknaa.Te
open Go.RowKit Go.ChangeShapes Go.WideShapes Go.ChangeAt

theorem own_nil (W : World) (base : Nat) (hb : base ≤ W.heap.size) : (W.alloc (.cells #[] 3)).ownsRow base 3 1 (.slice (some ⟨W.heap.size, 0, none⟩) 0 0) 0 [] :=
  ⟨rfl, .inr ⟨W.heap.size, 0, #[], rfl, hb, heap_alloc_new W _, Nat.le_refl _, by unfold maxLen; omega, by simp, by simp⟩⟩
theorem sh_lt {H : Type} {w : World} {x : Sta} {d : DataW H} {ts : List TypeId} {ds : List (DataW H)} {j : Nat} (h : ShIn w x d) (hsz : (DataW.weightsEach Try.prog ts ds).all (· ≤ reachBytes) = true) (ht : ts[j]? = some 24) (hd : ds[j]? = some d) : x.occ.l.length < 17592186044416 := by
  obtain ⟨d0, d1, d2, d3, rfl, i0, i1, i2, i3⟩ := h.data
  rcases sl_weight i0.2 Try.underlying22 Try.tby with h | ⟨k, hk, hle⟩
  · rw [h]; omega
  · have hm : k ∈ DataW.weightsEach Try.prog ts ds := by
      refine DataW.weights_mem_each ht hd _ ?_
      simp only [DataW.weights, Try.underlying24]
      exact DataW.weights_mem_each (j := 0) (t := 22) rfl rfl _ hk
    have := List.all_eq_true.1 hsz _ hm
    simp only [decide_eq_true_eq] at this
    unfold reachBytes at this
    omega
theorem bl_head {a d g : Int} {y : List UInt8} (h : blL a d g = (y, 0)) : y.head? = some 3 := by
  have k := bl_ok h
  have : (rblL y).2 = 0 := by rw [k]
  exact (rbl_head this).1
set_option maxRecDepth 100000 in
set_option maxHeartbeats 4000000 in
theorem cross_walk (h : Sta) (t : Tol) (more : Int) (w : World) (hh : h.Ok w) (hm : h.occ.l.length < 17592186044416) (hs : t.s.Ok w) (ho : t.o.Ok w) :
    Calls Try.prog 6 #[h.val, t.val, .int .i64 more] w fun e w' => e = .returned (.bool true) ∧ Below w.heap.size w w' := by
  have hsh := hh.sh
  have KL := fun W => lives_any W
  have KS := fun (W : World) (k : t.s.Ok W) => status_any hsh k
  have KO := fun (W : World) (k : t.o.Ok W) => orders_any hsh k
  have KR1 := fun (W : World) => rorders_any hsh ⟨(stL h.sh.hs t.s.st).1.toArray⟩ W
  have KR2 := fun (W : World) => rblock_any ⟨(stL h.sh.hs t.s.st).1.toArray⟩ W
  have KR3 := fun (W : World) (A : Option Addr) (c : Nat) => rstatus_any (h := ⟨⟨A, h.occ.l.length + 1, c⟩, h.sh.p, h.sh.c, h.sh.g⟩) ⟨hm, hsh.p, hsh.c, hsh.g⟩ ⟨(stL h.sh.hs t.s.st).1.toArray⟩ W
  have KR4 := fun (W : World) => rstatus_any hsh ⟨(orL h.sh.hs t.o.st).1.toArray⟩ W
  have KR5 := fun (W : World) => rblock_any ⟨(orL h.sh.hs t.o.st).1.toArray⟩ W
  rw [show bytesOf ⟨(stL h.sh.hs t.s.st).1.toArray⟩ = (stL h.sh.hs t.s.st).1 from rfl] at KR1 KR2
  simp only [show bytesOf ⟨(stL h.sh.hs t.s.st).1.toArray⟩ = (stL h.sh.hs t.s.st).1 from rfl] at KR3
  rw [show bytesOf ⟨(orL h.sh.hs t.o.st).1.toArray⟩ = (orL h.sh.hs t.o.st).1 from rfl] at KR4 KR5
  simp only [show ∀ A c, Sh.hs ⟨⟨A, h.occ.l.length + 1, c⟩, h.sh.p, h.sh.c, h.sh.g⟩ = ⟨h.occ.l.length + 1, h.sh.p.n, h.sh.c.n, h.sh.g.n⟩ from fun _ _ => rfl] at KR3
  have hd1 : (stL h.sh.hs t.s.st).2 = 0 → (stL h.sh.hs t.s.st).1.head? = some 1 := fun e => by
    obtain ⟨a, b⟩ := st_ok (t := (stL h.sh.hs t.s.st).1) (Prod.ext rfl e)
    rw [b]
    rfl
  have hd2 : (orL h.sh.hs t.o.st).2 = 0 → (orL h.sh.hs t.o.st).1.head? = some 2 := fun e => by
    obtain ⟨a, b⟩ := or_ok (t := (orL h.sh.hs t.o.st).1) (Prod.ext rfl e)
    rw [b]
    rfl
  have hA1 : (stL h.sh.hs t.s.st).2 = 0 → (rorL h.sh.hs (stL h.sh.hs t.s.st).1).2 ≠ 0 := fun e k => by
    have := hd1 e
    rw [(ror_head k).1] at this
    injection this with this
    exact absurd this (by decide)
  have hA2 : (stL h.sh.hs t.s.st).2 = 0 → (rblL (stL h.sh.hs t.s.st).1).2 ≠ 0 := fun e k => by
    have := hd1 e
    rw [(rbl_head k).1] at this
    injection this with this
    exact absurd this (by decide)
  have hA3 : (stL h.sh.hs t.s.st).2 = 0 → (rstL ⟨h.occ.l.length + 1, h.sh.p.n, h.sh.c.n, h.sh.g.n⟩ (stL h.sh.hs t.s.st).1).2 ≠ 0 := fun e k => by
    obtain ⟨a, b⟩ := st_ok (t := (stL h.sh.hs t.s.st).1) (Prod.ext rfl e)
    rw [b] at k
    refine st_cross a (h' := ⟨h.occ.l.length + 1, h.sh.p.n, h.sh.c.n, h.sh.g.n⟩) ?_ k
    show h.occ.l.length + _ + _ + _ ≠ h.occ.l.length + 1 + _ + _ + _
    show h.occ.l.length + h.sh.p.n + h.sh.c.n + h.sh.g.n ≠ h.occ.l.length + 1 + h.sh.p.n + h.sh.c.n + h.sh.g.n
    omega
  have hA4 : (orL h.sh.hs t.o.st).2 = 0 → (rstL h.sh.hs (orL h.sh.hs t.o.st).1).2 ≠ 0 := fun e k => by
    have := hd2 e
    rw [(rst_head k).1] at this
    injection this with this
    exact absurd this (by decide)
  have hA5 : (orL h.sh.hs t.o.st).2 = 0 → (rblL (orL h.sh.hs t.o.st).1).2 ≠ 0 := fun e k => by
    have := hd2 e
    rw [(rbl_head k).1] at this
    injection this with this
    exact absurd this (by decide)
  clear hd1 hd2
  generalize rorL h.sh.hs (stL h.sh.hs t.s.st).1 = U1 at *
  generalize rblL (stL h.sh.hs t.s.st).1 = U2 at *
  generalize rstL ⟨h.occ.l.length + 1, h.sh.p.n, h.sh.c.n, h.sh.g.n⟩ (stL h.sh.hs t.s.st).1 = U3 at *
  generalize rstL h.sh.hs (orL h.sh.hs t.o.st).1 = U4 at *
  generalize rblL (orL h.sh.hs t.o.st).1 = U5 at *
  generalize stL h.sh.hs t.s.st = Y1 at *
  generalize orL h.sh.hs t.o.st = Y2 at *
  obtain ⟨y1, e1⟩ := Y1
  obtain ⟨y2, e2⟩ := Y2
  obtain ⟨u1, v1⟩ := U1
  obtain ⟨⟨ua, ud, ug⟩, v2⟩ := U2
  obtain ⟨u3, v3⟩ := U3
  obtain ⟨u4, v4⟩ := U4
  obtain ⟨⟨qa, qd, qg⟩, v5⟩ := U5
  simp only at KS KO KR1 KR2 KR3 KR4 KR5 hA1 hA2 hA3 hA4 hA5
  generalize (⟨y1.toArray⟩ : ByteArray) = x1 at *
  generalize (⟨y2.toArray⟩ : ByteArray) = x2 at *
  have HA1 := Lib.hid hA1
  have HA2 := Lib.hid hA2
  have HA3 := Lib.hid hA3
  have HA4 := Lib.hid hA4
  have HA5 := Lib.hid hA5
  have HM := Lib.hid hm
  have HRD := Lib.hid hh.occ.rd
  have hm1 : h.occ.l.length + 1 ≤ 140737488355328 := by omega
  have hm2 : (h.occ.l.length + 1) * 8 ≤ 140737488355328 := by omega
  have HM1 := Lib.hid hm1
  have HM2 := Lib.hid hm2
  clear hA1 hA2 hA3 hA4 hA5 hm hm1 hm2
  obtain ⟨i0, hi0, hz0, hz1, hz2⟩ := info_parts Try.infoI
  have fa := (Fr.refl (fun _ => False) w).alloc (.cells h.cells.toArray 24)
  have fb := fa.alloc (.cells t.cells.toArray 32)
  have ih : Is ((w.alloc (.cells h.cells.toArray 24)).alloc (.cells t.cells.toArray 32)) w.heap.size 24 h.cells.toArray := (Is.new _ _ _).alloc _
  have it : Is ((w.alloc (.cells h.cells.toArray 24)).alloc (.cells t.cells.toArray 32)) (w.heap.size + 1) 32 t.cells.toArray := by
    have := Is.new (w.alloc (.cells h.cells.toArray 24)) 32 t.cells.toArray
    simpa using this
  have HS := Lib.hid hs
  have HO := Lib.hid ho
  have G0 := Lib.hid fb
  have HB0 := Lib.hid ih
  have TB0 := Lib.hid it
  have P0 := Lib.hid (Fr.refl (fun _ => False) ((w.alloc (.cells h.cells.toArray 24)).alloc (.cells t.cells.toArray 32)))
  clear hh hs ho hsh fa fb ih it
  obtain ⟨⟨⟨A1, l1, k1⟩, ⟨A2, l2, k2⟩, ⟨A3, l3, k3⟩, ⟨A4, l4, k4⟩⟩, ⟨⟨P1, o1, p1⟩, ⟨P2, o2, p2⟩, ⟨P3, o3, p3⟩⟩, ⟨ba, bd, bg⟩⟩ := t
  obtain ⟨⟨S1, m1, s1⟩, ⟨S2, m2, s2⟩, ⟨S3, m3, s3⟩, ⟨S4, m4, s4⟩⟩ := h
  unfold Sta.val Tol.val Tol.cells Sta.cells Ods.cells Sta.sh Sh.val Ods.val Bl.val at *
  simp only [List.cons_append, List.nil_append] at *
  go_enter Try.func6, Try.ntmps6
-- GEN
  go_wp2_with fail
  generalize (w.alloc _).alloc _ = w0 at *
  refine (KL w0).mono ?_
  rintro e w101 ⟨rfl, f101⟩
  have P101 := Lib.hid (fr_nil P0.out f101)
  clear f101 
  obtain ⟨h0, h1, h2, h3⟩ := four_cells (HB0.out.fr P101.out id)
  obtain ⟨t0, t1, t2, t3, t4, t5, t6, t7, t8, t9⟩ := ten_cells (TB0.out.fr P101.out id)
  go_wp2_with fail
  clear h0 h1 h2 h3 t0 t1 t2 t3 t4 t5 t6 t7 t8 t9
  refine (KS w101 (HS.out.fr (fr_nil G0.out P101.out))).mono ?_
  rintro e w102 ⟨rfl, f102⟩
  have P102 := Lib.hid (fr_nil P101.out f102)
  clear f102  P101
  obtain ⟨h0, h1, h2, h3⟩ := four_cells (HB0.out.fr P102.out id)
  obtain ⟨t0, t1, t2, t3, t4, t5, t6, t7, t8, t9⟩ := ten_cells (TB0.out.fr P102.out id)
  go_wp2_with fail
  clear h0 h1 h2 h3 t0 t1 t2 t3 t4 t5 t6 t7 t8 t9
  refine (KO w102 (HO.out.fr (fr_nil G0.out P102.out))).mono ?_
  rintro e w103 ⟨rfl, f103⟩
  have P103 := Lib.hid (fr_nil P102.out f103)
  clear f103  P102
  obtain ⟨h0, h1, h2, h3⟩ := four_cells (HB0.out.fr P103.out id)
  clear h0 h1 h2 h3
  have hbq : w0.heap.size ≤ (w103.alloc (.cells #[.slice S1 m1.length s1, .slice S2 m2.length s2, .slice S3 m3.length s3, .slice S4 m4.length s4] 24)).heap.size := (P103.out.alloc (.cells #[.slice S1 m1.length s1, .slice S2 m2.length s2, .slice S3 m3.length s3, .slice S4 m4.length s4] 24)).size
  have hbg : w0.heap.size ≤ w103.heap.size := P103.out.size
  have own0 := own_nil (w103.alloc (.cells #[.slice S1 m1.length s1, .slice S2 m2.length s2, .slice S3 m3.length s3, .slice S4 m4.length s4] 24)) w0.heap.size hbq
  have PA := Lib.hid ((P103.out.alloc (.cells #[.slice S1 m1.length s1, .slice S2 m2.length s2, .slice S3 m3.length s3, .slice S4 m4.length s4] 24)).alloc (.cells #[] 3))
  have IX := Lib.hid ((Is.new w103 24 #[.slice S1 m1.length s1, .slice S2 m2.length s2, .slice S3 m3.length s3, .slice S4 m4.length s4]).alloc (.cells #[] 3))
  have hr0 := HRD.out.fr (fr_nil G0.out PA.out) (fun _ _ => id)
  obtain ⟨h0, h1, h2, h3⟩ := four_cells (HB0.out.fr PA.out id)
  obtain ⟨j0, j1, j2, j3⟩ := four_cells (HB0.out.fr P103.out id)
  have hone : ∀ u ∈ m1.map (Value.int .i64), u.oneCell' = true := by intro u hu; obtain ⟨y, _, rfl⟩ := List.mem_map.1 hu; rfl
  have hbs : w0.heap.size ≤ ((w103.alloc (.cells #[.slice S1 m1.length s1, .slice S2 m2.length s2, .slice S3 m3.length s3, .slice S4 m4.length s4] 24)).alloc (.cells #[] 3)).heap.size := PA.out.size
  simp only [World.size_alloc] at own0
  go_upto_if 48 with (first | (at_builtin; refine wpList_append_wide _ rfl (.tmp 39) (.tmp 41) 22 rfl w0.heap.size 3 i0 _ 1 8 Try.underlying22 hi0 hz0 hz1 hz2 rfl (by decide) (.slice (some ⟨w103.heap.size + 1, 0, none⟩) 0 0) 0 [] rfl own0 S1 s1 m1.length (m1.map (Value.int .i64)) (by simp) rfl hr0 hone (by have := HM1.out; unfold maxLen; omega) (by have := HM2.out; omega) hbs ?_; intro v6 w6 hown6 hg6 hat6; rw [Nat.zero_add, List.nil_append] at hown6; obtain ⟨A6, c6, rfl, _, _, _, _⟩ := wide_form hown6; have IX6 := Lib.hid (IX.out.fr ((Fr.refl (fun j => (Value.slice (some ⟨w103.heap.size + 1, 0, none⟩) 0 0).ownBlock = some j) ((w103.alloc (.cells #[.slice S1 m1.length s1, .slice S2 m2.length s2, .slice S3 m3.length s3, .slice S4 m4.length s4] 24)).alloc (.cells #[] 3))).grown hg6 fun j hj => .inl hj) (wide_is_ne own0 IX.out (by decide))); have P6 := Lib.hid (PA.out.grown hg6 fun j hj => .inr ((World.ownsRow.lt own0) j hj).1); have hbs6 : w0.heap.size ≤ (w6.alloc (.cells #[.int .i64 more] 3)).heap.size := (P6.out.alloc _).size) | (at_builtin; refine wpList_append_wide _ rfl (.tmp 42) (.tmp 44) 22 rfl w0.heap.size 3 i0 _ 1 8 Try.underlying22 hi0 hz0 hz1 hz2 rfl (by decide) (.slice A6 m1.length c6) m1.length (m1.map (Value.int .i64)) rfl (hown6.alloc _) (some ⟨w6.heap.size, 0, none⟩) 1 1 [.int .i64 more] rfl rfl (lit_rd rfl _ _) (by simp [Value.oneCell']) (by have := HM1.out; unfold maxLen; omega) HM2.out hbs6 ?_; intro v7 w7 hown7 hg7 hat7; obtain ⟨A7, c7, rfl, _, _, _, _⟩ := wide_form hown7; have IX7 := (IX6.out.alloc (.cells #[.int .i64 more] 3)).fr ((Fr.refl (fun j => (Value.slice A6 m1.length c6).ownBlock = some j) _).grown hg7 fun j hj => .inl hj) (wide_is_ne (hown6.alloc (.cells #[.int .i64 more] 3)) (IX6.out.alloc (.cells #[.int .i64 more] 3)) (by decide)); have P7 := Lib.hid ((P6.out.alloc (.cells #[.int .i64 more] 3)).grown hg7 fun j hj => .inr ((World.ownsRow.lt hown6) j hj).1); obtain ⟨x0, x1c, x2c, x3c⟩ := four_cells IX7; have xz := IX7.frozen 0; have HIX7 := Lib.hid IX7))
  have IX8 := HIX7.out.set 0 (.slice A7 (m1.length + 1) c7)
  have f8 := (Fr.refl (fun _ => False) w0).trans P7.out (fun _ _ h => h)
  have p8 : Fr (fun _ => False) w0 (w7.setCell ⟨w103.heap.size, 0, none⟩ (.slice A7 (m1.length + 1) c7)) := f8.setCell (.inr hbg) _
  clear x0 x1c x2c x3c xz h0 h1 h2 h3 j0 j1 j2 j3 HIX7 P7 f8 hown7 hg7 hat7 hown6 hg6 hat6 IX6 P6 hbs6 own0 hr0 hone hbs IX PA hbq
  generalize w7.setCell ⟨w103.heap.size, 0, none⟩ (.slice A7 (m1.length + 1) c7) = w8 at *
  generalize w103.heap.size = bg at *
  have IG8 := Lib.hid (show Is w8 bg 24 #[.slice A7 (m1.length + 1) c7, .slice S2 m2.length s2, .slice S3 m3.length s3, .slice S4 m4.length s4] from IX8)
  have P8 := Lib.hid p8
  clear IX8 p8 P103
  go_cut [] from 22 (fun wx => Fr (fun _ => False) w0 wx)
  case first =>
    by_cases he : e1 = 0
    · skip
      have b1 : (e1 == 0) = true := by simp [he]
      have c1 : (v1 == 0) = false := by simpa using HA1.out he
      have c2 : (v2 == 0) = false := by simpa using HA2.out he
      have c3 : (v3 == 0) = false := by simpa using HA3.out he
      clear he
      obtain ⟨h0, h1, h2, h3⟩ := four_cells (HB0.out.fr P8.out id)
      go_wp2_with fail
      clear h0 h1 h2 h3
      refine (KR1 w8).mono ?_
      rintro e w104 ⟨⟨⟨DD0, ddl0, ddc0⟩, ⟨DD1, ddl1, ddc1⟩, ⟨DD2, ddl2, ddc2⟩⟩, rfl, ED, OD, f104⟩
      have IG104 := Lib.hid (IG8.out.fr f104 id)
      have P104 := Lib.hid (fr_nil P8.out f104)
      clear f104 IG8 P8
      clear ED OD
      have IG105 := Lib.hid (IG104.out.alloc (.cells #[.slice DD0 ddl0.length ddc0, .slice DD1 ddl1.length ddc1, .slice DD2 ddl2.length ddc2] 28))
      have P105 := Lib.hid (P104.out.alloc (.cells #[.slice DD0 ddl0.length ddc0, .slice DD1 ddl1.length ddc1, .slice DD2 ddl2.length ddc2] 28))
      have ID105 := Lib.hid (Is.new w104 28 #[.slice DD0 ddl0.length ddc0, .slice DD1 ddl1.length ddc1, .slice DD2 ddl2.length ddc2])
      clear IG104 P104
      go_wp2_with fail
      generalize w104.alloc (.cells #[.slice DD0 ddl0.length ddc0, .slice DD1 ddl1.length ddc1, .slice DD2 ddl2.length ddc2] 28) = w105 at *
      generalize w104.heap.size = bID at *
      refine (KR2 w105).mono ?_
      rintro e w106 ⟨rfl, f106⟩
      have IG106 := Lib.hid (IG105.out.fr f106 id)
      have ID106 := Lib.hid (ID105.out.fr f106 id)
      have P106 := Lib.hid (fr_nil P105.out f106)
      clear f106 IG105 ID105 P105
      have IG107 := Lib.hid (IG106.out.alloc (.cells #[.int .i64 ua, .int .i64 ud, .int .i64 ug] 30))
      have ID107 := Lib.hid (ID106.out.alloc (.cells #[.int .i64 ua, .int .i64 ud, .int .i64 ug] 30))
      have P107 := Lib.hid (P106.out.alloc (.cells #[.int .i64 ua, .int .i64 ud, .int .i64 ug] 30))
      have IF107 := Lib.hid (Is.new w106 30 #[.int .i64 ua, .int .i64 ud, .int .i64 ug])
      clear IG106 ID106 P106
      obtain ⟨g0, g1, g2, g3⟩ := four_cells IG107.out
      go_wp2_with fail
      clear g0 g1 g2 g3
      generalize w106.alloc (.cells #[.int .i64 ua, .int .i64 ud, .int .i64 ug] 30) = w107 at *
      generalize w106.heap.size = bIF at *
      refine (KR3 w107 A7 c7).mono ?_
      rintro e w108 ⟨⟨⟨AA0, aal0, aac0⟩, ⟨AA1, aal1, aac1⟩, ⟨AA2, aal2, aac2⟩, ⟨AA3, aal3, aac3⟩⟩, rfl, EA, OA, f108⟩
      have IG108 := Lib.hid (IG107.out.fr f108 id)
      have ID108 := Lib.hid (ID107.out.fr f108 id)
      have IF108 := Lib.hid (IF107.out.fr f108 id)
      have P108 := Lib.hid (fr_nil P107.out f108)
      clear f108 IG107 ID107 IF107 P107
      clear EA OA
      have IG109 := Lib.hid (IG108.out.alloc (.cells #[.slice AA0 aal0.length aac0, .slice AA1 aal1.length aac1, .slice AA2 aal2.length aac2, .slice AA3 aal3.length aac3] 26))
      have ID109 := Lib.hid (ID108.out.alloc (.cells #[.slice AA0 aal0.length aac0, .slice AA1 aal1.length aac1, .slice AA2 aal2.length aac2, .slice AA3 aal3.length aac3] 26))
      have IF109 := Lib.hid (IF108.out.alloc (.cells #[.slice AA0 aal0.length aac0, .slice AA1 aal1.length aac1, .slice AA2 aal2.length aac2, .slice AA3 aal3.length aac3] 26))
      have P109 := Lib.hid (P108.out.alloc (.cells #[.slice AA0 aal0.length aac0, .slice AA1 aal1.length aac1, .slice AA2 aal2.length aac2, .slice AA3 aal3.length aac3] 26))
      have IA109 := Lib.hid (Is.new w108 26 #[.slice AA0 aal0.length aac0, .slice AA1 aal1.length aac1, .slice AA2 aal2.length aac2, .slice AA3 aal3.length aac3])
      clear IG108 ID108 IF108 P108
      go_wp2_with fail
      generalize w108.alloc (.cells #[.slice AA0 aal0.length aac0, .slice AA1 aal1.length aac1, .slice AA2 aal2.length aac2, .slice AA3 aal3.length aac3] 26) = w109 at *
      generalize w108.heap.size = bIA at *
      go_meet
      case rel => exact P109.out
    · skip
      have b1 : (e1 == 0) = false := by simpa using he
      clear he
      go_wp2_with fail
      go_meet
      case rel => exact P8.out
  case rest =>
    clear P8 IG8
    obtain ⟨w110, rfl⟩ : ∃ q, q = wc := ⟨_, rfl⟩
    have P110 := Lib.hid hcut
    clear hcut
    go_upto_if 77 with fail
    go_cut [] from 22 (fun wx => Fr (fun _ => False) w0 wx)
    case first =>
      by_cases he : e2 = 0
      · skip
        have b1 : (e2 == 0) = true := by simp [he]
        have c4 : (v4 == 0) = false := by simpa using HA4.out he
        have c5 : (v5 == 0) = false := by simpa using HA5.out he
        clear he
        obtain ⟨h0, h1, h2, h3⟩ := four_cells (HB0.out.fr P110.out id)
        go_wp2_with fail
        clear h0 h1 h2 h3
        refine (KR4 w110).mono ?_
        rintro e w111 ⟨⟨⟨AA0, aal0, aac0⟩, ⟨AA1, aal1, aac1⟩, ⟨AA2, aal2, aac2⟩, ⟨AA3, aal3, aac3⟩⟩, rfl, EA, OA, f111⟩
        have P111 := Lib.hid (fr_nil P110.out f111)
        clear f111  P110
        clear EA OA
        have P112 := Lib.hid (P111.out.alloc (.cells #[.slice AA0 aal0.length aac0, .slice AA1 aal1.length aac1, .slice AA2 aal2.length aac2, .slice AA3 aal3.length aac3] 26))
        have IA112 := Lib.hid (Is.new w111 26 #[.slice AA0 aal0.length aac0, .slice AA1 aal1.length aac1, .slice AA2 aal2.length aac2, .slice AA3 aal3.length aac3])
        clear  P111
        go_wp2_with fail
        generalize w111.alloc (.cells #[.slice AA0 aal0.length aac0, .slice AA1 aal1.length aac1, .slice AA2 aal2.length aac2, .slice AA3 aal3.length aac3] 26) = w112 at *
        generalize w111.heap.size = bIA at *
        refine (KR5 w112).mono ?_
        rintro e w113 ⟨rfl, f113⟩
        have IA113 := Lib.hid (IA112.out.fr f113 id)
        have P113 := Lib.hid (fr_nil P112.out f113)
        clear f113 IA112 P112
        have IA114 := Lib.hid (IA113.out.alloc (.cells #[.int .i64 qa, .int .i64 qd, .int .i64 qg] 30))
        have P114 := Lib.hid (P113.out.alloc (.cells #[.int .i64 qa, .int .i64 qd, .int .i64 qg] 30))
        have IF114 := Lib.hid (Is.new w113 30 #[.int .i64 qa, .int .i64 qd, .int .i64 qg])
        clear IA113 P113
        go_wp2_with fail
        generalize w113.alloc (.cells #[.int .i64 qa, .int .i64 qd, .int .i64 qg] 30) = w114 at *
        generalize w113.heap.size = bIF at *
        go_meet
        case rel => exact P114.out
      · skip
        have b1 : (e2 == 0) = false := by simpa using he
        clear he
        go_wp2_with fail
        go_meet
        case rel => exact P110.out
    case rest =>
      clear P110
      obtain ⟨w115, rfl⟩ : ∃ q, q = wc := ⟨_, rfl⟩
      have P115 := Lib.hid hcut
      clear hcut
      go_wp2_with fail
      go_ret
      exact ⟨rfl, (fr_nil G0.out P115.out).toBelow0⟩
-- DONE
end Go.Proofs.Ytmohefkingnknaa.Te

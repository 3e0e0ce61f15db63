/- ImageTrue: told finds the text that told it. -/
import Derived.Test.YtfmhfngilimhjaaIsaid
import Derived.Test.YtfmhfngilimhjaaIml
import Derived.Test.YtfmhfngilimhjaaTd
namespace Go.Proofs.Ytfmhfngilimhjaa.Im
open Go.RowKit Li

theorem refstatus_x {x : Te.Sta} {w0 : World} (hx : x.Ok w0) (s : ByteArray) (w : World) :
    Calls Try.prog 45 #[.agg #[.slice x.occ.A x.occ.l.length x.occ.c, .slice x.pos.A x.pos.l.length x.pos.c, .slice x.shut.A x.shut.l.length x.shut.c, .slice x.lamp.A x.lamp.l.length x.lamp.c], .string s] w fun e w' => ∃ x0 x1 x2 x3 : Te.L3, e = .returned (.tuple #[.agg #[.slice x0.A x0.l.length x0.c, .slice x1.A x1.l.length x1.c, .slice x2.A x2.l.length x2.c, .slice x3.A x3.l.length x3.c], .int .i64 (Te.rstL x.st.hs (bytesOf s)).2]) ∧ (Te.Sta.mk x0 x1 x2 x3).st = (Te.rstL x.st.hs (bytesOf s)).1 ∧ (Te.Sta.mk x0 x1 x2 x3).Ok w' ∧ (Te.Sta.mk x0 x1 x2 x3).New w.heap.size ∧ Fr (fun _ => False) w w' :=
  (Te.refrst_new hx.sh s w).mono fun _ _ k => Te.ex_sta k
/-- nothing is told beyond what came: the text at i0 tells what is looked for -/
structure Tells (C : Te.Cf) (l : List Cw) (i j : Nat) (v z : Int) (i0 p : Nat) : Prop where
  oc : ∃ h : i0 < l.length, l[i0].oc = (j : Int) ∧ (readL (bytesOf l[i0].x)).e = 0 ∧ (readL (bytesOf l[i0].x)).s = z ∧ (Te.rstL (Te.shL C (j : Nat)).hs (readL (bytesOf l[i0].x)).x).2 = 0 ∧ (Te.rstL (Te.shL C (j : Nat)).hs (readL (bytesOf l[i0].x)).x).1.occ[p]? = some v
  at_ : (Te.idx (Te.inB (j : Nat)) 0 C.l)[p]? = some (i : Int)
set_option maxHeartbeats 8000000 in
set_option maxRecDepth 100000 in
theorem told_any {C : Te.Cf} {w : World} (hC : C.Ok w) {A : Option Addr} {cap : Nat} {l : List Cw} (hl : Comes w A l) (hll : l.length ≤ 1048576) (hlx : ∀ t ∈ l, t.x.size ≤ 1048576) {n : Nat} (hn : n ≤ l.length) {i j : Nat} {v z : Int} {i0 p : Nat} (h0 : i0 < n) (ht : Tells C l i j v z i0 p) (b : Bool) :
    Calls Try.prog 24 #[C.val, .slice A n cap, .int .i64 (j : Int), .int .i64 (i : Int), .agg #[.int .i64 v, .int .i64 z, .bool b]] w fun e w' => e = .returned (.bool true) ∧ Fr (fun _ => False) w w' := by
  unfold Te.Cf.val Te.Cf.cells at *
  have ib := Is.new w 30 C.arr
  have fb := (Fr.refl (fun _ => False) w).alloc (.cells C.arr 30)
  unfold Te.Cf.arr at *
  have il := Is.new (w.alloc (.cells #[.slice C.A1 C.l.length C.c1, .slice C.A2 C.n2 C.c2, .slice C.A3 C.sg.length C.c3, .slice C.A4 C.cr.length C.c4, .slice C.A5 C.n5 C.c5, .int .i64 C.t.age, .int .i64 C.t.brake, .int .i64 C.t.hold, .int .i64 C.t.budget] 30)) 59 #[.int .i64 v, .int .i64 z, .bool b]
  simp only [World.size_alloc] at il
  have ib' := ib.alloc (.cells #[.int .i64 v, .int .i64 z, .bool b] 59)
  have fb' := fb.alloc (.cells #[.int .i64 v, .int .i64 z, .bool b] 59)
  clear ib fb
  go_enter Try.func24, Try.ntmps24
  go_wp2_with fail
  generalize (w.alloc _).alloc _ = w0 at *
  have HIL := Lib.hid il
  have F0 := Lib.hid fb'
  have HC0 := Lib.hid (hC.fr fb')
  clear ib' il fb'
  refine ((Te.refshape_any HC0.out (j : Int)).mono fun e w' k => (Te.ex_sta k)).mono ?_
  rintro e w2 ⟨x0, x1, x2, x3, rfl, hst, hok, hnew, f2⟩
  have HST := Lib.hid hst
  have HOK := Lib.hid hok
  have il2 := HIL.out.fr f2 id
  have F2 := Lib.hid (fr_nil F0.out f2)
  clear hst hok hnew f2 HC0 F0 HIL
  unfold Te.Sta.val
  simp only
  have ih := Is.new w2 33 #[.slice x0.A x0.l.length x0.c, .slice x1.A x1.l.length x1.c, .slice x2.A x2.l.length x2.c, .slice x3.A x3.l.length x3.c]
  have HIH := Lib.hid ih
  have hlt2 := il2.lt
  have HIL2 := Lib.hid (il2.alloc (.cells #[.slice x0.A x0.l.length x0.c, .slice x1.A x1.l.length x1.c, .slice x2.A x2.l.length x2.c, .slice x3.A x3.l.length x3.c] 33))
  have HOK3 := Lib.hid (HOK.out.fr ((Fr.refl (fun _ => False) w2).alloc (.cells #[.slice x0.A x0.l.length x0.c, .slice x1.A x1.l.length x1.c, .slice x2.A x2.l.length x2.c, .slice x3.A x3.l.length x3.c] 33)))
  have F3 := Lib.hid (F2.out.alloc (.cells #[.slice x0.A x0.l.length x0.c, .slice x1.A x1.l.length x1.c, .slice x2.A x2.l.length x2.c, .slice x3.A x3.l.length x3.c] 33))
  clear ih il2 HOK
  have HL := Lib.hid hl
  have HTT := Lib.hid ht
  clear hl ht
  go_wp2_with fail
  obtain ⟨hb, hhb⟩ : ∃ hb, hb = w2.heap.size := ⟨_, rfl⟩
  rw [← hhb] at HIH ⊢
  have HHB : Hid (w.heap.size + 1 < hb) := Lib.hid (by
    have h1 := HIL2.out.lt
    omega)
  clear hhb hlt2 F2
  generalize w2.alloc _ = w3 at *
  go_loopw [24] (fun iv wr => ∃ k : Nat, k ≤ i0 ∧ iv = .int .i64 (k : Nat) ∧ Fr (fun _ => False) w3 wr) (fun iv _ => n - (intOf iv).toNat)
  case atStart => exact ⟨0, Nat.zero_le _, rfl, Fr.refl _ _⟩
  case round =>
    obtain ⟨k, hk, rfl, fr⟩ := hrel
    have hkl : k < l.length := by omega
    have hkn : (k : Int) < (n : Int) := by omega
    have hn6 : n ≤ 1048576 := by omega
    obtain ⟨g, o, rfl, hg, hc⟩ := HL.out.fr (fr_nil F3.out fr) (fun _ _ => id) (by omega)
    obtain ⟨c0, c1, c2⟩ := hc k hkl
    have hx := hlx l[k] (List.getElem_mem hkl)
    have hk0 : k = i0 → l[k].oc = (j : Int) ∧ (readL (bytesOf l[k].x)).e = 0 ∧ (readL (bytesOf l[k].x)).s = z ∧ (Te.rstL (Te.shL C (j : Nat)).hs (readL (bytesOf l[k].x)).x).2 = 0 ∧ (Te.rstL (Te.shL C (j : Nat)).hs (readL (bytesOf l[k].x)).x).1.occ[p]? = some v := fun e => by
      subst e
      obtain ⟨_, h⟩ := HTT.out.oc
      exact h
    generalize l[k] = xx at *
    obtain ⟨now, oc, x⟩ := xx
    simp only at c0 c1 c2 hx hk0
    have KR := fun W => rread_any x (by omega) W
    have fa := fr.alloc (.cells #[.int .i64 now, .int .i64 oc, .string x] 48)
    have ia : Is (wr.alloc (.cells #[.int .i64 now, .int .i64 oc, .string x] 48)) wr.heap.size 48 #[.int .i64 now, .int .i64 oc, .string x] := Is.new wr _ _
    obtain ⟨cb, hcb⟩ : ∃ cb, cb = wr.heap.size := ⟨_, rfl⟩
    rw [← hcb] at ia
    have HFA := Lib.hid fa
    have HIA := Lib.hid ia
    have HK0 := Lib.hid hk0
    clear fa ia hk0 hc
    go_wp2_with fail
    rw [← hcb]
    clear hcb c0 c1 c2 hg fr hx
    generalize wr.alloc _ = wa at *
    refine (KR _).mono ?_
    rintro e w4 ⟨rfl, f4⟩
    have HK1 := HK0.out
    generalize readL (bytesOf x) = t at *
    obtain ⟨tp, tn, ts, tx, te⟩ := t
    simp only at HK1
    unfold saidV
    simp only
    have HK := Lib.hid HK1
    have HF4 := Lib.hid (fr_nil HFA.out f4)
    have HI4 := Lib.hid (HIA.out.fr f4 id)
    clear HK1 HK0 f4 HFA HIA KR
    have i5 := HI4.out.alloc (.cells #[.int .i64 tp, .int .i64 tn, .int .i64 ts, .string ⟨tx.toArray⟩] 121)
    have il5 := (HIL2.out.fr HF4.out id).alloc (.cells #[.int .i64 tp, .int .i64 tn, .int .i64 ts, .string ⟨tx.toArray⟩] 121)
    have ih5 := (HIH.out.fr HF4.out id).alloc (.cells #[.int .i64 tp, .int .i64 tn, .int .i64 ts, .string ⟨tx.toArray⟩] 121)
    have it5 := Is.new w4 121 #[.int .i64 tp, .int .i64 tn, .int .i64 ts, .string ⟨tx.toArray⟩]
    have f5 := HF4.out.alloc (.cells #[.int .i64 tp, .int .i64 tn, .int .i64 ts, .string ⟨tx.toArray⟩] 121)
    obtain ⟨tb, htb⟩ : ∃ tb, tb = w4.heap.size := ⟨_, rfl⟩
    rw [← htb] at it5
    have d1 := (i5.cell 1).trans rfl
    have d2 := (il5.cell 1).trans rfl
    have HIL5 := Lib.hid il5
    have HIH5 := Lib.hid ih5
    have HIT5 := Lib.hid it5
    have HF5 := Lib.hid f5
    clear i5 il5 ih5 it5 f5
    go_upto_region 6 with fail
    rw [← htb]
    have d3 := (HIT5.out.cell 2).trans rfl
    generalize w4.alloc _ = w5 at *
    clear htb
    have hne : ∀ (q : Prop), (k ≠ i0 → q) → ∀ a b : Prop, (k = i0 → a) → ¬ a → q := fun q h a _ ha hn => h fun e => hn (ha e)
    by_cases q1 : oc = (j : Int)
    · by_cases q2 : te = 0
      · by_cases q3 : ts = z
        · subst q1 q2 q3
          obtain ⟨s0, s1, s2, s3⟩ := Te.four_cells HIH5.out
          have KS := fun W => refstatus_x HOK3.out (⟨tx.toArray⟩ : ByteArray) W
          have d4 := (HIT5.out.cell 3).trans rfl
          simp only [HST.out, show bytesOf (⟨tx.toArray⟩ : ByteArray) = tx from rfl] at KS
          have HQ : Hid (k = i0 → (Te.rstL (Te.shL C (j : Nat)).hs tx).2 = 0 ∧ (Te.rstL (Te.shL C (j : Nat)).hs tx).1.occ[p]? = some v) := Lib.hid fun e => (HK.out e).2.2.2
          have HLEN : (Te.rstL (Te.shL C (j : Nat)).hs tx).2 = 0 → (Te.rstL (Te.shL C (j : Nat)).hs tx).1.hs = (Te.shL C (j : Nat)).hs := fun e => rst_hs e
          generalize Te.rstL (Te.shL C (j : Nat)).hs tx = S at *
          obtain ⟨st, se⟩ := S
          simp only at KS
          clear hne HK
          go_wp2_with fail
          refine (KS _).mono ?_
          rintro e w6 ⟨y0, y1, y2, y3, rfl, hst6, hok6, hnew6, f6⟩
          have HS6 := Lib.hid hst6
          have HO6 := Lib.hid (hok6.fr ((Fr.refl (fun _ => False) w6).alloc (.cells #[.slice y0.A y0.l.length y0.c, .slice y1.A y1.l.length y1.c, .slice y2.A y2.l.length y2.c, .slice y3.A y3.l.length y3.c] 65)))
          have iy := Is.new w6 65 #[.slice y0.A y0.l.length y0.c, .slice y1.A y1.l.length y1.c, .slice y2.A y2.l.length y2.c, .slice y3.A y3.l.length y3.c]
          have ih6 := (HIH5.out.fr f6 id).alloc (.cells #[.slice y0.A y0.l.length y0.c, .slice y1.A y1.l.length y1.c, .slice y2.A y2.l.length y2.c, .slice y3.A y3.l.length y3.c] 65)
          have il6 := (HIL5.out.fr f6 id).alloc (.cells #[.slice y0.A y0.l.length y0.c, .slice y1.A y1.l.length y1.c, .slice y2.A y2.l.length y2.c, .slice y3.A y3.l.length y3.c] 65)
          have f7 := (fr_nil HF5.out f6).alloc (.cells #[.slice y0.A y0.l.length y0.c, .slice y1.A y1.l.length y1.c, .slice y2.A y2.l.length y2.c, .slice y3.A y3.l.length y3.c] 65)
          have HOX := Lib.hid (HOK3.out.fr f7)
          obtain ⟨yb, hyb⟩ : ∃ yb, yb = w6.heap.size := ⟨_, rfl⟩
          rw [← hyb] at iy
          have HIY := Lib.hid iy
          have HIH6 := Lib.hid ih6
          have HIL6 := Lib.hid il6
          have HF7 := Lib.hid f7
          clear s0 s1 s2 s3 d1 d2 d3 d4 hst6 hok6 hnew6 f6 iy ih6 il6 f7 KS
          go_upto_region 8 with fail
          rw [← hyb]
          generalize w6.alloc _ = w7 at *
          clear hyb
          by_cases q4 : se = 0
          · subst q4
            obtain ⟨s0, s1, s2, s3⟩ := Te.four_cells HIH6.out
            have hx0 : x0.l = Te.idx (Te.inB (j : Nat)) 0 C.l := congrArg Te.St.occ HST.out
            have hp0 : p < x0.l.length := by
              rw [hx0]
              exact (List.getElem?_eq_some_iff.1 HTT.out.at_).1
            have hpx : x0.l[p]? = some (i : Int) := by
              rw [hx0]
              exact HTT.out.at_
            have hyl : y0.l.length = x0.l.length := by
              have e1 : st.occ.length = (Te.shL C (j : Nat)).occ.length := congrArg Te.Hs.s (HLEN rfl)
              rw [show y0.l = st.occ from congrArg Te.St.occ HS6.out, e1, ← HST.out]
              rfl
            have HPX := Lib.hid hpx
            have HPY : Hid (k = i0 → y0.l[p]? = some v) := Lib.hid fun e => by
              rw [show y0.l = st.occ from congrArg Te.St.occ HS6.out]
              exact (HQ.out e).2
            have hxle := HOX.out.occ.le
            clear hx0 hpx
            go_wp2_with fail
            go_loopw [61] (fun iv wr => ∃ m : Nat, m ≤ x0.l.length ∧ (k = i0 → m ≤ p) ∧ iv = .int .i64 (m : Nat) ∧ Fr (fun _ => False) w7 wr) (fun iv _ => x0.l.length - (intOf iv).toNat)
            case atStart => exact ⟨0, Nat.zero_le _, fun _ => Nat.zero_le _, rfl, Fr.refl _ _⟩
            case round =>
              obtain ⟨m, hm, hmp, rfl, fr9⟩ := hrel
              by_cases hml : m < x0.l.length
              · have hmi : (m : Int) < (x0.l.length : Int) := by omega
                obtain ⟨gx, ox, hAx, _, hrx⟩ := (HOX.out.fr fr9).occ.rd (by rw [List.length_map]; exact Nat.lt_of_le_of_lt (Nat.zero_le m) hml)
                have cx := hrx m (.int .i64 x0.l[m]) (by rw [List.getElem?_map, List.getElem?_eq_getElem hml]; rfl)
                have hmy : m < y0.l.length := by omega
                obtain ⟨gy, oy, hAy, _, hry⟩ := (HO6.out.fr fr9).occ.rd (by rw [List.length_map]; exact Nat.lt_of_le_of_lt (Nat.zero_le m) hmy)
                have cy := hry m (.int .i64 y0.l[m]) (by rw [List.getElem?_map, List.getElem?_eq_getElem hmy]; rfl)
                have hyi : (m : Int) < (y0.l.length : Int) := by omega
                have HE : Hid (k = i0 → m = p → x0.l[m] = (i : Int) ∧ y0.l[m] = v) := Lib.hid fun e1 e2 => by
                  subst e2
                  have h1 := HPX.out
                  have h2 := HPY.out e1
                  rw [List.getElem?_eq_getElem hml, Option.some.injEq] at h1
                  rw [List.getElem?_eq_getElem hmy, Option.some.injEq] at h2
                  exact ⟨h1, h2⟩
                generalize x0.l[m] = xm at *
                generalize y0.l[m] = ym at *
                simp only at hAx hAy
                have iy9 := HIY.out.fr fr9 id
                rw [hAy] at iy9
                obtain ⟨t0, t1, t2, t3⟩ := Te.four_cells iy9
                have l0 := ((HIL6.out.fr fr9 id).cell 0).trans rfl
                rw [hAx]
                have t0' := cell_fro t0
                have l0' := cell_fro l0
                have cy' := cell_fro cy
                clear hrx hry iy9 s0 s1 s2 s3 hAx hAy t0 t1 t2 t3 l0 cy
                by_cases hq : xm = (i : Int)
                · by_cases hv : ym = v
                  · subst hq hv
                    go_wp2_with fail
                    refine region_fro (by kernel_rfl) (by kernel_rfl) ?_
                    repeat (go_big_quiet_step (fail))
                    refine wpQuiet_nil ?_
                    rintro w8 ⟨⟨w9, f10⟩, hww⟩
                    replace hww : w8 = w9 := hww
                    subst hww
                    clear t0' l0' cy'
                    go_wp2_with fail
                    go_ret
                    exact ⟨rfl, fr_nil F3.out (fr_nil HF7.out (fr_nil fr9 f10))⟩
                  · subst hq
                    go_wp2_with fail
                    refine region_fro (by kernel_rfl) (by kernel_rfl) ?_
                    repeat (go_big_quiet_step (fail))
                    refine wpQuiet_nil ?_
                    rintro w8 ⟨⟨w9, f10⟩, hww⟩
                    replace hww : w8 = w9 := hww
                    subst hww
                    clear t0' l0' cy'
                    go_wp2_with fail
                    exact ⟨⟨m + 1, by omega, fun e => by have := hmp e; rcases Nat.lt_or_ge m p with h | h; (· omega); (· exact absurd (HE.out e (by omega)).2 hv), rfl, fr_nil fr9 f10⟩, by show x0.l.length - ((m : Int) + 1).toNat < x0.l.length - (m : Int).toNat; omega⟩
                · have hq' : (xm == (i : Int)) = false := by simpa using hq
                  have hq2 : decide (xm = (i : Int)) = false := by simpa using hq
                  go_wp2_with fail
                  refine region_fro (by kernel_rfl) (by kernel_rfl) ?_
                  repeat (go_big_quiet_step (fail))
                  refine wpQuiet_nil ?_
                  rintro w8 ⟨⟨w9, f10⟩, hww⟩
                  replace hww : w8 = w9 := hww
                  subst hww
                  clear t0' l0' cy'
                  go_wp2_with fail
                  exact ⟨⟨m + 1, by omega, fun e => by have := hmp e; rcases Nat.lt_or_ge m p with h | h; (· omega); (· exact absurd (HE.out e (by omega)).1 hq), rfl, fr_nil fr9 f10⟩, by show x0.l.length - ((m : Int) + 1).toNat < x0.l.length - (m : Int).toNat; omega⟩
              · have hmi : ¬ (m : Int) < (x0.l.length : Int) := by omega
                have hk1 : k < i0 := by
                  rcases Nat.lt_or_ge k i0 with h | h
                  · exact h
                  · have := hmp (by omega)
                    omega
                clear s0 s1 s2 s3
                go_wp2_with fail
                exact ⟨⟨k + 1, by omega, rfl, fr_nil HF7.out fr9⟩, by show n - ((k : Int) + 1).toNat < n - (k : Int).toNat; omega⟩
          · have hk1 : k < i0 := by
              have := HQ.out
              rcases Nat.lt_or_ge k i0 with h | h
              · exact h
              · exact absurd (this (by omega)).1 q4
            go_wp2_with fail
            exact ⟨⟨k + 1, by omega, rfl, HF7.out⟩, by show n - ((k : Int) + 1).toNat < n - (k : Int).toNat; omega⟩
        · have hk1 : k < i0 := by
            have := HK.out
            rcases Nat.lt_or_ge k i0 with h | h
            · exact h
            · exact absurd (this (by omega)).2.2.1 q3
          subst q1 q2
          go_wp2_with fail
          exact ⟨⟨k + 1, by omega, rfl, HF5.out⟩, by show n - ((k : Int) + 1).toNat < n - (k : Int).toNat; omega⟩
      · have hk1 : k < i0 := by
          have := HK.out
          rcases Nat.lt_or_ge k i0 with h | h
          · exact h
          · exact absurd (this (by omega)).2.1 q2
        subst q1
        go_wp2_with fail
        exact ⟨⟨k + 1, by omega, rfl, HF5.out⟩, by show n - ((k : Int) + 1).toNat < n - (k : Int).toNat; omega⟩
    · have hk1 : k < i0 := by
        have := HK.out
        rcases Nat.lt_or_ge k i0 with h | h
        · exact h
        · exact absurd (this (by omega)).1 q1
      go_wp2_with fail
      exact ⟨⟨k + 1, by omega, rfl, HF5.out⟩, by show n - ((k : Int) + 1).toNat < n - (k : Int).toNat; omega⟩
end Go.Proofs.Ytfmhfngilimhjaa.Im

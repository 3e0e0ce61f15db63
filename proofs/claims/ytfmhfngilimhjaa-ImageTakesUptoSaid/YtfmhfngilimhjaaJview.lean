/- The document's image: View. -/
import Derived.Test.YtfmhfngilimhjaaJv
namespace Go.Proofs.Ytfmhfngilimhjaa.Im
open Go.RowKit Li

theorem enters_oc (args : Array Value) (w : World) : (callFunc 54 args).run Try.prog w = .ok (.enter 54 args) w := by
  have h := Try.func54
  go_simp
theorem enters_at (args : Array Value) (w : World) : (callFunc 53 args).run Try.prog w = .ok (.enter 53 args) w := by
  have h := Try.func53
  go_simp
theorem enters_look (args : Array Value) (w : World) : (callFunc 52 args).run Try.prog w = .ok (.enter 52 args) w := by
  have h := Try.func52
  go_simp
theorem l_calln {P : Program} {ops : Array Oper} {a : Act} {w : World} {φ : Value → World → Prop} {d : Option Tmp} {f : FuncId} {xs : Array Operand} {ats : Array TypeId} {ty : TypeId} {pos : String} {af : Array Edge} {vs : Array Value} (he : ∀ args w, (callFunc f args).run P w = .ok (.enter f args) w) (hx : xs.map a.eval = vs) (k : Calls P f vs w fun e w'' => ∃ r, e = .returned r ∧ φ r w'') : Oper.gives P ops ⟨d, .call { callee := .value (.func f), args := xs, argTypes := ats }, ty, pos, af, none⟩ a w φ := by
  refine l_enter rfl (f := f) (args := vs) (w' := w) ?_ k
  rw [execOp_call_go]
  rw [hx]
  simp only [Array.empty_append, Array.append_empty]
  exact he _ _
theorem ap_nil (u : Value) : Ap (.slice none 0 0) u := fun _ h => by cases h
theorem rd_is {w : World} {b : Nat} {t : TypeId} {xs : List Value} (h : Is w b t xs.toArray) : Rd w (some ⟨b, 0, none⟩) xs := fun _ =>
  ⟨b, 0, rfl, h.lt, fun j u hu => by
    rw [Nat.zero_add, h.cell, ← hu, List.getElem?_toArray]⟩
def rocc (C : Te.Cf) (ks : List Kr) (now : Int) (i : Nat) : Lk := lookF ks C.t.age now (C.l.getD i default).oc (atL (i : Int) (hF C (C.l.getD i default).oc).occ 0) (sF ks (C.l.getD i default).oc).occ 1
def rpos (C : Te.Cf) (ks : List Kr) (now : Int) (i : Nat) : Lk := lookF ks C.t.age now (C.l.getD i default).oc (atL (i : Int) (hF C (C.l.getD i default).oc).pos 0) (sF ks (C.l.getD i default).oc).pos 0
def rshut (C : Te.Cf) (ks : List Kr) (now : Int) (i : Nat) : Lk := lookF ks C.t.age now (ocF C.l (C.cr.getD i 0)) (atL (i : Int) (hF C (ocF C.l (C.cr.getD i 0))).shut 0) (sF ks (ocF C.l (C.cr.getD i 0))).shut 0
def rlamp (C : Te.Cf) (ks : List Kr) (now : Int) (i : Nat) : Lk := lookF ks C.t.age now (ocF C.l (C.sg.getD i default).sec) (atL (i : Int) (hF C (ocF C.l (C.sg.getD i default).sec)).lamp 0) (sF ks (ocF C.l (C.sg.getD i default).sec)).lamp 0
def rows (f : Nat → Lk) (k : Nat) : List Lk := (List.range k).map f
theorem rows_snoc (f : Nat → Lk) (k : Nat) : rows f (k + 1) = rows f k ++ [f k] := by
  unfold rows
  rw [List.range_succ, List.map_append]
  rfl
theorem rows_length (f : Nat → Lk) (k : Nat) : (rows f k).length = k := by simp [rows]
set_option maxRecDepth 100000 in
set_option maxHeartbeats 8000000 in
theorem jview_any {w : World} {base n : Nat} {p : Jp} {C : Te.Cf} {ks : List Kr} (h : Jm w base n p C ks) (hC : C.Ok w) (hs : Small C) (hz : ∀ k ∈ ks, -1 ≤ k.z) (now : Int) (hnow : now ≤ 9223372036854775807) :
    Calls Try.prog 22 #[.pointer (some ⟨p.b, 0, none⟩), .int .i64 now] w fun e w' => ∃ (vb : Nat) (v0 v1 v2 v3 : Value), e = .returned (.agg #[v0, v1, v2, v3]) ∧ Vr w' w.heap.size vb v0 v1 v2 v3 (rows (rocc C ks now) C.l.length) (rows (rpos C ks now) C.l.length) (rows (rshut C ks now) C.cr.length) (rows (rlamp C ks now) C.sg.length) ∧ Fr (fun _ => False) w w' := by
  have ia : Is ((w.alloc (.cells #[.slice none 0 0, .slice none 0 0, .slice none 0 0, .slice none 0 0] 55)).alloc (.cells #[.slice none 0 0, .slice none 0 0, .slice none 0 0, .slice none 0 0] 55)) w.heap.size 55 #[.slice none 0 0, .slice none 0 0, .slice none 0 0, .slice none 0 0] := (Is.new w 55 #[.slice none 0 0, .slice none 0 0, .slice none 0 0, .slice none 0 0]).alloc _
  have ib : Is ((w.alloc (.cells #[.slice none 0 0, .slice none 0 0, .slice none 0 0, .slice none 0 0] 55)).alloc (.cells #[.slice none 0 0, .slice none 0 0, .slice none 0 0, .slice none 0 0] 55)) (w.heap.size + 1) 55 #[.slice none 0 0, .slice none 0 0, .slice none 0 0, .slice none 0 0] := by
    have := Is.new (w.alloc (.cells #[.slice none 0 0, .slice none 0 0, .slice none 0 0, .slice none 0 0] 55)) 55 #[.slice none 0 0, .slice none 0 0, .slice none 0 0, .slice none 0 0]
    simpa using this
  have fa := ((Fr.refl (fun _ => False) w).alloc (.cells #[.slice none 0 0, .slice none 0 0, .slice none 0 0, .slice none 0 0] 55)).alloc (.cells #[.slice none 0 0, .slice none 0 0, .slice none 0 0, .slice none 0 0] 55)
  have HJ := Lib.hid h
  have HC := Lib.hid hC
  have HZ := Lib.hid hz
  have hl9 := hs.l
  have hc9 := hs.cr
  have hg9 := hs.sg
  have KS := fun (W : World) (f : Fr (fun _ => False) w W) (oc : Int) => (said_any (h.fr0 f) (hC.fr f) oc).mono fun e w' (k : ∃ x y : Te.Sta, _) => k
  have hsok : ∀ S : Nat → Prop, (∀ q, S q → w.heap.size ≤ q) → ∀ k ∈ ks, k.s.Off S := fun S hS k hk => (h.sok k hk).off_new hS
  have HSO := Lib.hid hsok
  obtain ⟨p0, p1, p2, p3, p4, p5, p6, p7, p8, p9, p10, p11⟩ := twelve (h.is.fr fa id)
  obtain ⟨vb, hvb⟩ : ∃ vb, vb = w.heap.size + 1 := ⟨_, rfl⟩
  obtain ⟨rb, hrb⟩ : ∃ rb, rb = w.heap.size := ⟨_, rfl⟩
  rw [← hvb] at ib
  rw [← hrb] at ia
  have HV0 : Hid (Vr ((w.alloc (.cells #[.slice none 0 0, .slice none 0 0, .slice none 0 0, .slice none 0 0] 55)).alloc (.cells #[.slice none 0 0, .slice none 0 0, .slice none 0 0, .slice none 0 0] 55)) w.heap.size vb (.slice none 0 0) (.slice none 0 0) (.slice none 0 0) (.slice none 0 0) [] [] [] []) :=
    Lib.hid ⟨ib, by omega, World.ownsRow_nil _ _ _ _, World.ownsRow_nil _ _ _ _, World.ownsRow_nil _ _ _ _, World.ownsRow_nil _ _ _ _, ap_nil _, ap_nil _, ap_nil _, ap_nil _, ap_nil _, ap_nil _⟩
  have HIA := Lib.hid ia
  have HFA := Lib.hid fa
  have HVB : Hid (vb = w.heap.size + 1 ∧ rb = w.heap.size) := Lib.hid ⟨hvb, hrb⟩
  obtain ⟨R0, hR0⟩ : ∃ R, rows (rocc C ks now) C.l.length = R := ⟨_, rfl⟩
  obtain ⟨R1, hR1⟩ : ∃ R, rows (rpos C ks now) C.l.length = R := ⟨_, rfl⟩
  obtain ⟨R2, hR2⟩ : ∃ R, rows (rshut C ks now) C.cr.length = R := ⟨_, rfl⟩
  obtain ⟨R3, hR3⟩ : ∃ R, rows (rlamp C ks now) C.sg.length = R := ⟨_, rfl⟩
  rw [hR0, hR1, hR2, hR3]
  have HR0 := Lib.hid hR0
  have HR1 := Lib.hid hR1
  have HR2 := Lib.hid hR2
  have HR3 := Lib.hid hR3
  clear h hC hz hsok ia ib fa hR0 hR1 hR2 hR3
  go_enter Try.func22, Try.ntmps22
  go_wp2_with fail
  rw [← hvb, ← hrb]
  clear hvb hrb
  generalize (w.alloc (.cells #[.slice none 0 0, .slice none 0 0, .slice none 0 0, .slice none 0 0] 55)).alloc (.cells #[.slice none 0 0, .slice none 0 0, .slice none 0 0, .slice none 0 0] 55) = wz at *
  clear p1 p2 p3 p4 p5 p6 p7 p8 p9 p10 p11
  go_loopw [24] (fun v24 wr => ∃ (i : Nat) (v0 v1 : Value), i ≤ C.l.length ∧ v24 = .int .i64 (i : Nat) ∧ Vr wr w.heap.size vb v0 v1 (.slice none 0 0) (.slice none 0 0) (rows (rocc C ks now) i) (rows (rpos C ks now) i) [] [] ∧ Is wr rb 55 #[.slice none 0 0, .slice none 0 0, .slice none 0 0, .slice none 0 0] ∧ Fr (fun _ => False) w wr) (fun v _ => C.l.length - (intOf v).toNat)
  case atStart => exact ⟨0, _, _, Nat.zero_le _, rfl, HV0.out, HIA.out, HFA.out⟩
  case round =>
    clear HV0 HIA HFA
    obtain ⟨i, v0, v1, hi, rfl, hv, hrb, fr⟩ := hrel
    by_cases hlt : i < C.l.length
    · have hii : (i : Int) < (C.l.length : Int) := by omega
      obtain ⟨gs, os, hA, _, s0, s1, s2⟩ := Te.rd_sec (HC.out.fr fr).secs hlt
      have hgd : C.l.getD i default = C.l[i] := by rw [List.getD_eq_getElem?_getD, List.getElem?_eq_getElem hlt]; rfl
      have HO := Lib.hid (rows_snoc (rocc C ks now) i)
      have HP := Lib.hid (rows_snoc (rpos C ks now) i)
      have HL0 : Hid (rocc C ks now i = lookF ks C.t.age now C.l[i].oc (atL (i : Int) (hF C C.l[i].oc).occ 0) (sF ks C.l[i].oc).occ 1) := Lib.hid (by unfold rocc; rw [hgd])
      have HL1 : Hid (rpos C ks now i = lookF ks C.t.age now C.l[i].oc (atL (i : Int) (hF C C.l[i].oc).pos 0) (sF ks C.l[i].oc).pos 0) := Lib.hid (by unfold rpos; rw [hgd])
      generalize rocc C ks now i = lk0 at *
      generalize rpos C ks now i = lk1 at *
      have hn0 := rows_length (rocc C ks now) i
      have hn1 := rows_length (rpos C ks now) i
      generalize rows (rocc C ks now) i = L0 at *
      generalize rows (rpos C ks now) i = L1 at *
      generalize C.l[i].oc = oc at *
      generalize C.l[i].kind = qk at *
      generalize C.l[i].line = ql at *
      have KS1 := KS (wr.alloc (.cells #[.int .i64 qk, .int .i64 oc, .int .i64 ql] 38)) (fr.alloc _) oc
      have isb := Is.new wr 38 #[.int .i64 qk, .int .i64 oc, .int .i64 ql]
      obtain ⟨g0, g1, g2⟩ := Te.three6 isb
      obtain ⟨sb, hsb⟩ : ∃ sb, sb = wr.heap.size := ⟨_, rfl⟩
      rw [← hsb] at isb
      have fal := (Fr.refl (fun _ => False) wr).alloc (.cells #[.int .i64 qk, .int .i64 oc, .int .i64 ql] 38)
      have HV := Lib.hid (hv.fr0 fal)
      have HRB := Lib.hid (hrb.fr fal id)
      have HFW := Lib.hid (fr_nil fr fal)
      have HSB := Lib.hid isb
      have HSBN : Hid (sb ≠ vb) := Lib.hid (by have := hv.is.lt; omega)
      clear isb hv hrb fr hgd fal
      rw [hA]
      go_wp2_with fail
      rw [← hsb]
      clear hsb g0 g1 g2 s0 s1 s2
      generalize wr.alloc _ = wa at *
      refine KS1.mono ?_
      rintro e w3 ⟨x, y, rfl, hx, hy, okx, oky, hoff, f3⟩
      have HLK0 : Hid (lookF ks C.t.age now oc (atL (i : Int) y.occ.l 0) x.occ.l 1 = lk0) := Lib.hid (by rw [HL0.out, ← hy, ← hx]; rfl)
      have HLK1 : Hid (lookF ks C.t.age now oc (atL (i : Int) y.pos.l 0) x.pos.l 0 = lk1) := Lib.hid (by rw [HL1.out, ← hy, ← hx]; rfl)
      clear KS1 HL0 HL1
      have HOFF := Lib.hid (hoff (fun q => w.heap.size ≤ q ∧ q < wa.heap.size) (fun q hq => hq.2) (HSO.out _ fun q hq => hq.1))
      have HIN : Hid (∀ q, q = vb ∨ v0.ownBlock = some q ∨ v1.ownBlock = some q → w.heap.size ≤ q ∧ q < wa.heap.size ∧ q ≠ sb ∧ q ≠ rb) := Lib.hid fun q hq => by
        rcases hq with rfl | hq | hq
        · exact ⟨HV.out.hz, HV.out.is.lt, fun e => HSBN.out e.symm, by have := HVB.out; omega⟩
        · exact ⟨(World.ownsRow.lt HV.out.o0 q hq).1, (World.ownsRow.lt HV.out.o0 q hq).2, row_ne HV.out.o0 HSB.out (by decide) q hq, row_ne HV.out.o0 HRB.out (by decide) q hq⟩
        · exact ⟨(World.ownsRow.lt HV.out.o1 q hq).1, (World.ownsRow.lt HV.out.o1 q hq).2, row_ne HV.out.o1 HSB.out (by decide) q hq, row_ne HV.out.o1 HRB.out (by decide) q hq⟩
      clear hx hy hoff
      unfold Te.Sta.val
      have fb := ((Fr.refl (fun _ => False) w3).alloc (.cells #[.slice x.occ.A x.occ.l.length x.occ.c, .slice x.pos.A x.pos.l.length x.pos.c, .slice x.shut.A x.shut.l.length x.shut.c, .slice x.lamp.A x.lamp.l.length x.lamp.c] 65)).alloc (.cells #[.slice y.occ.A y.occ.l.length y.occ.c, .slice y.pos.A y.pos.l.length y.pos.c, .slice y.shut.A y.shut.l.length y.shut.c, .slice y.lamp.A y.lamp.l.length y.lamp.c] 33)
      have it : Is ((w3.alloc (.cells #[.slice x.occ.A x.occ.l.length x.occ.c, .slice x.pos.A x.pos.l.length x.pos.c, .slice x.shut.A x.shut.l.length x.shut.c, .slice x.lamp.A x.lamp.l.length x.lamp.c] 65)).alloc (.cells #[.slice y.occ.A y.occ.l.length y.occ.c, .slice y.pos.A y.pos.l.length y.pos.c, .slice y.shut.A y.shut.l.length y.shut.c, .slice y.lamp.A y.lamp.l.length y.lamp.c] 33)) w3.heap.size 65 #[.slice x.occ.A x.occ.l.length x.occ.c, .slice x.pos.A x.pos.l.length x.pos.c, .slice x.shut.A x.shut.l.length x.shut.c, .slice x.lamp.A x.lamp.l.length x.lamp.c] := (Is.new w3 65 #[.slice x.occ.A x.occ.l.length x.occ.c, .slice x.pos.A x.pos.l.length x.pos.c, .slice x.shut.A x.shut.l.length x.shut.c, .slice x.lamp.A x.lamp.l.length x.lamp.c]).alloc _
      have ihb : Is ((w3.alloc (.cells #[.slice x.occ.A x.occ.l.length x.occ.c, .slice x.pos.A x.pos.l.length x.pos.c, .slice x.shut.A x.shut.l.length x.shut.c, .slice x.lamp.A x.lamp.l.length x.lamp.c] 65)).alloc (.cells #[.slice y.occ.A y.occ.l.length y.occ.c, .slice y.pos.A y.pos.l.length y.pos.c, .slice y.shut.A y.shut.l.length y.shut.c, .slice y.lamp.A y.lamp.l.length y.lamp.c] 33)) (w3.heap.size + 1) 33 #[.slice y.occ.A y.occ.l.length y.occ.c, .slice y.pos.A y.pos.l.length y.pos.c, .slice y.shut.A y.shut.l.length y.shut.c, .slice y.lamp.A y.lamp.l.length y.lamp.c] := by
        have := Is.new (w3.alloc (.cells #[.slice x.occ.A x.occ.l.length x.occ.c, .slice x.pos.A x.pos.l.length x.pos.c, .slice x.shut.A x.shut.l.length x.shut.c, .slice x.lamp.A x.lamp.l.length x.lamp.c] 65)) 33 #[.slice y.occ.A y.occ.l.length y.occ.c, .slice y.pos.A y.pos.l.length y.pos.c, .slice y.shut.A y.shut.l.length y.shut.c, .slice y.lamp.A y.lamp.l.length y.lamp.c]
        simpa using this
      go_wp2_with fail
      obtain ⟨tb, htb⟩ : ∃ tb, tb = w3.heap.size := ⟨_, rfl⟩
      obtain ⟨hb, hhb⟩ : ∃ hb, hb = w3.heap.size + 1 := ⟨_, rfl⟩
      rw [← hhb] at ihb ⊢
      rw [← htb] at it ⊢
      have HTB := Lib.hid it
      have HHB := Lib.hid ihb
      have HX := Lib.hid (okx.fr fb)
      have HY := Lib.hid (oky.fr fb)
      have HTN : Hid (wa.heap.size ≤ tb ∧ wa.heap.size ≤ hb) := Lib.hid (by have h2 := f3.size; exact ⟨by omega, by omega⟩)
      have HV4 := Lib.hid ((HV.out.fr0 f3).fr0 fb)
      have HFW4 := Lib.hid (fr_nil (fr_nil HFW.out f3) fb)
      have HRB4 := Lib.hid ((HRB.out.fr f3 id).fr fb id)
      have HSB4 := Lib.hid ((HSB.out.fr f3 id).fr fb id)
      clear HV HFW HRB HSB it ihb htb hhb okx oky f3 fb
      have HV := HV4
      have HFW := HFW4
      have HRB := HRB4
      have HSB := HSB4
      clear HV4 HFW4 HRB4 HSB4
      generalize (w3.alloc _).alloc _ = w4 at *
      obtain ⟨A0, c0, hva, _, _, _, _⟩ := wide_form HV.out.o0
      subst hva
      refine region_lateT 14 [36, 37, 38, 39, 40, 41, 42, 43, 44, 45, 46, 47, 48, 49] [50, 51] [(36, .val (.pointer (some ⟨vb, 0, none⟩))), (37, .val (.slice A0 L0.length c0)), (38, .val (.pointer (some ⟨p.b, 0, none⟩))), (39, .val (.int .i64 now)), (40, .val (.pointer (some ⟨sb, 1, none⟩))), (41, .val (.int .i64 oc)), (42, .val (.pointer (some ⟨hb, 0, none⟩))), (43, .val (.slice y.occ.A y.occ.l.length y.occ.c)), (44, .val (.int .i64 (i : Int))), (45, .val (.int .i64 (atL (i : Int) y.occ.l 0))), (46, .val (.pointer (some ⟨tb, 0, none⟩))), (47, .val (.slice x.occ.A x.occ.l.length x.occ.c)), (48, .val (.agg #[.int .i64 lk0.v, .int .i64 lk0.z, .bool lk0.b])), (49, .made w4.heap.size 59 1 #[.int .i64 lk0.v, .int .i64 lk0.z, .bool lk0.b])] (by kernel_rfl) (by kernel_rfl) (by kernel_rfl) (by decide) (by kernel_rfl) (by decide) (by kernel_rfl) ?_ ?_
      · intro i9 o9 ho him
        have hcase : i9 = 0 ∨ i9 = 1 ∨ i9 = 2 ∨ i9 = 3 ∨ i9 = 4 ∨ i9 = 5 ∨ i9 = 6 ∨ i9 = 7 ∨ i9 = 8 ∨ i9 = 9 ∨ i9 = 10 ∨ i9 = 11 ∨ i9 = 12 ∨ i9 = 13 := by omega
        clear him
        rcases hcase with rfl | rfl | rfl | rfl | rfl | rfl | rfl | rfl | rfl | rfl | rfl | rfl | rfl | rfl <;> (injection ho with ho; subst ho; intro a' w' hf hl)
        · have e0 : a'.eval (.tmp 5) = .pointer (some ⟨vb, 0, none⟩) := hl 5 (by decide)
          refine l_of rfl (v := .pointer (some ⟨vb, 0, none⟩)) (w' := w') (by clear hl; revert e0; generalize a'.eval = ev; intro e0; go_simp) (putL' (Fr.refl _ _) rfl)
        · have e0 : a'.eval (.tmp 36) = .pointer (some ⟨vb, 0, none⟩) := hl 36 (by decide)
          have cc := Te.four_cells (Is.fr (S := fun _ => False) (Is.drew HV.out.is) hf id)
          refine l_of rfl (v := .slice A0 L0.length c0) (w' := w') (by clear hl; revert e0; generalize a'.eval = ev; intro e0; go_simp) (putL' (Fr.refl _ _) rfl)
        · have e0 : a'.eval (.tmp 0) = .pointer (some ⟨p.b, 0, none⟩) := hl 0 (by decide)
          refine l_of rfl (v := .pointer (some ⟨p.b, 0, none⟩)) (w' := w') (by clear hl; revert e0; generalize a'.eval = ev; intro e0; go_simp) (putL' (Fr.refl _ _) rfl)
        · have e0 : a'.eval (.tmp 1) = .int .i64 now := hl 1 (by decide)
          refine l_of rfl (v := .int .i64 now) (w' := w') (by clear hl; revert e0; generalize a'.eval = ev; intro e0; go_simp) (putL' (Fr.refl _ _) rfl)
        · have e0 : a'.eval (.tmp 7) = .pointer (some ⟨sb, 0, none⟩) := hl 7 (by decide)
          refine l_of rfl (v := .pointer (some ⟨sb, 1, none⟩)) (w' := w') (by clear hl; revert e0; generalize a'.eval = ev; intro e0; go_simp) (putL' (Fr.refl _ _) rfl)
        · have e0 : a'.eval (.tmp 40) = .pointer (some ⟨sb, 1, none⟩) := hl 40 (by decide)
          have cc := Te.three6 (Is.fr (S := fun _ => False) (Is.drew HSB.out) hf id)
          refine l_of rfl (v := .int .i64 oc) (w' := w') (by clear hl; revert e0; generalize a'.eval = ev; intro e0; go_simp) (putL' (Fr.refl _ _) rfl)
        · have e0 : a'.eval (.tmp 9) = .pointer (some ⟨hb, 0, none⟩) := hl 9 (by decide)
          refine l_of rfl (v := .pointer (some ⟨hb, 0, none⟩)) (w' := w') (by clear hl; revert e0; generalize a'.eval = ev; intro e0; go_simp) (putL' (Fr.refl _ _) rfl)
        · have e0 : a'.eval (.tmp 42) = .pointer (some ⟨hb, 0, none⟩) := hl 42 (by decide)
          have cc := Te.four_cells (Is.fr (S := fun _ => False) (Is.drew HHB.out) hf id)
          refine l_of rfl (v := .slice y.occ.A y.occ.l.length y.occ.c) (w' := w') (by clear hl; revert e0; generalize a'.eval = ev; intro e0; go_simp) (putL' (Fr.refl _ _) rfl)
        · have e0 : a'.eval (.tmp 6) = .int .i64 (i : Int) := hl 6 (by decide)
          refine l_of rfl (v := .int .i64 (i : Int)) (w' := w') (by clear hl; revert e0; generalize a'.eval = ev; intro e0; go_simp) (putL' (Fr.refl _ _) rfl)
        · have e1 : a'.eval (.tmp 43) = .slice y.occ.A y.occ.l.length y.occ.c := hl 43 (by decide)
          have e2 : a'.eval (.tmp 44) = .int .i64 (i : Int) := hl 44 (by decide)
          refine Te.l_call2 enters_at e1 e2 ((at_any ((HY.out.fr ((Fr.refl _ w4).drew.trans hf fun _ _ h => h)).occ.rd) (HY.out.occ.le) (i : Int)).mono fun e w'' ⟨he, hw⟩ => ⟨_, he, by subst hw; exact putL' (Fr.refl _ _) rfl⟩)
        · have e0 : a'.eval (.tmp 8) = .pointer (some ⟨tb, 0, none⟩) := hl 8 (by decide)
          refine l_of rfl (v := .pointer (some ⟨tb, 0, none⟩)) (w' := w') (by clear hl; revert e0; generalize a'.eval = ev; intro e0; go_simp) (putL' (Fr.refl _ _) rfl)
        · have e0 : a'.eval (.tmp 46) = .pointer (some ⟨tb, 0, none⟩) := hl 46 (by decide)
          have cc := Te.four_cells (Is.fr (S := fun _ => False) (Is.drew HTB.out) hf id)
          refine l_of rfl (v := .slice x.occ.A x.occ.l.length x.occ.c) (w' := w') (by clear hl; revert e0; generalize a'.eval = ev; intro e0; go_simp) (putL' (Fr.refl _ _) rfl)
        · have e1 : a'.eval (.tmp 38) = .pointer (some ⟨p.b, 0, none⟩) := hl 38 (by decide)
          have e2 : a'.eval (.tmp 39) = .int .i64 now := hl 39 (by decide)
          have e3 : a'.eval (.tmp 41) = .int .i64 oc := hl 41 (by decide)
          have e4 : a'.eval (.tmp 45) = .int .i64 (atL (i : Int) y.occ.l 0) := hl 45 (by decide)
          have e5 : a'.eval (.tmp 47) = .slice x.occ.A x.occ.l.length x.occ.c := hl 47 (by decide)
          have e6 : a'.eval (.const (.int .i64 1)) = .int .i64 1 := rfl
          refine l_calln (vs := #[.pointer (some ⟨p.b, 0, none⟩), .int .i64 now, .int .i64 oc, .int .i64 (atL (i : Int) y.occ.l 0), .slice x.occ.A x.occ.l.length x.occ.c, .int .i64 1]) enters_look (by simp only [List.map_toArray, List.map_cons, List.map_nil, e1, e2, e3, e4, e5, e6]) ((look_any (HJ.out.fr0 (HFW.out.drew.trans hf fun _ _ h => h)) HZ.out now oc (atL (i : Int) y.occ.l 0) hnow (HX.out.fr ((Fr.refl _ w4).drew.trans hf fun _ _ h => h)).occ.rd HX.out.occ.le 1).mono fun e w'' ⟨he, hw⟩ => ⟨_, he, by rw [HLK0.out]; exact putL' hw rfl⟩)
        · have e0 : a'.eval (.tmp 48) = .agg #[.int .i64 lk0.v, .int .i64 lk0.z, .bool lk0.b] := hl 48 (by decide)
          refine l_of rfl (v := .slice (some ⟨w'.heap.size, 0, none⟩) 1 1) (w' := w'.alloc (.cells #[.int .i64 lk0.v, .int .i64 lk0.z, .bool lk0.b] 59)) (by clear hl; revert e0; generalize a'.eval = ev; intro e0; go_simp) (putL' ((Fr.refl _ _).alloc _) ⟨_, rfl, Is.new _ _ _, hf.size⟩)
      · intro val w' hf hT
        have e37 : val 37 = .slice A0 L0.length c0 := hT 37 (by decide)
        obtain ⟨ab, e49, iab, hab⟩ := (hT 49 (by decide) : (Sp.made _ _ _ _).p _ _)
        simp only [laidL, List.foldl_cons, List.foldl_nil, e37, e49]
        clear hT
        generalize val 36 = q36; generalize val 38 = q38; generalize val 39 = q39; generalize val 40 = q40; generalize val 41 = q41; generalize val 42 = q42; generalize val 43 = q43; generalize val 44 = q44; generalize val 45 = q45; generalize val 46 = q46; generalize val 47 = q47; generalize val 48 = q48
        simp only [List.setIfInBounds_toArray, List.set_cons_succ, List.set_cons_zero]
        have HV7 := HV.out.fr0 ((Fr.refl _ w4).drew.trans hf fun _ _ h => h)
        have hrd : Rd w' (some ⟨ab, 0, none⟩) [.int .i64 lk0.v, .int .i64 lk0.z, .bool lk0.b] := rd_is iab
        have hbs : w.heap.size ≤ w'.heap.size := Nat.le_trans HFW.out.size (by have := hf.size; simpa using this)
        obtain ⟨i0, hi0, hz0, hz1, hz2⟩ := info_parts Try.infoLk
        refine tail_append (n0 := 2) rfl rfl rfl (.tmp 37) (.tmp 49) 53 rfl w.heap.size 59 i0 _ 3 24 Try.underlying53 hi0 hz0 hz1 hz2 rfl (by decide) (.slice A0 L0.length c0) L0.length (cellsL L0) rfl HV7.o0 (some ⟨ab, 0, none⟩) 1 1 [.int .i64 lk0.v, .int .i64 lk0.z, .bool lk0.b] rfl rfl hrd (by intro u hu; simp at hu; rcases hu with rfl | rfl | rfl <;> rfl) (by unfold maxLen; omega) (by omega) hbs ?_
        intro v' w2 hown hgrow hat
        obtain ⟨A', c', hv', _, _, _, _⟩ := wide_form hown
        subst hv'
        have i2 := HV7.is.fr ((Fr.refl (fun q => (Value.slice A0 L0.length c0).ownBlock = some q) w').grown hgrow fun _ hk => .inl hk) (fun hq => wide_is_ne HV7.o0 HV7.is (by decide) hq)
        obtain ⟨m0, m1, m2, m3⟩ := Te.four_cells i2
        have z0 := i2.frozen 0
        obtain ⟨V7, f7⟩ := Vr.put0 (x := lk0) HV7 hown hgrow hat
        refine tailv (n := 1) rfl rfl rfl (v := .pointer (some ⟨vb, 0, none⟩)) (w' := w2) (by go_simp) ?_
        refine tail1 rfl rfl rfl (w' := w2.setCell ⟨vb, 0, none⟩ (.slice A' (L0.length + 1) c')) (by go_simp) ?_
        simp only [List.setIfInBounds_toArray, List.set_cons_succ, List.set_cons_zero]
        clear m0 m1 m2 m3 z0 i2 hown hgrow hrd iab hbs hat
        have F7 : Fr (fun q => q = vb ∨ (Value.slice A0 L0.length c0).ownBlock = some q) w4 (w2.setCell ⟨vb, 0, none⟩ (.slice A' (L0.length + 1) c')) := (((Fr.refl (fun _ => False) w4).drew.trans hf fun _ _ h => h).mono fun _ _ h => h.elim).trans f7 fun _ _ h => h
        clear f7 hf HV7
        generalize w2.setCell ⟨vb, 0, none⟩ (.slice A' (L0.length + 1) c') = W5 at *
        have hin : ∀ q, (q = vb ∨ (Value.slice A0 L0.length c0).ownBlock = some q) → w.heap.size ≤ q ∧ q < wa.heap.size ∧ q ≠ sb ∧ q ≠ rb := fun q hq => HIN.out q (by rcases hq with h | h; exact .inl h; exact .inr (.inl h))
        have htn := HTN.out
        have HX7 := Lib.hid (HX.out.off F7 (HOFF.out.1.mono fun q hq => ⟨(hin q hq).1, (hin q hq).2.1⟩))
        have HY7 := Lib.hid (HY.out.off F7 (HOFF.out.2.mono fun q hq => ⟨(hin q hq).1, (hin q hq).2.1⟩))
        have HTB7 := Lib.hid (HTB.out.fr F7 fun hq => by have := (hin _ hq).2.1; omega)
        have HHB7 := Lib.hid (HHB.out.fr F7 fun hq => by have := (hin _ hq).2.1; omega)
        have HRB7 := Lib.hid (HRB.out.fr F7 fun hq => (hin _ hq).2.2.2 rfl)
        have HSB7 := Lib.hid (HSB.out.fr F7 fun hq => (hin _ hq).2.2.1 rfl)
        have HFW7 := Lib.hid (HFW.out.trans F7 fun q hq h => by have := (hin q h).1; omega)
        have HV7 := Lib.hid V7
        clear HX HY HTB HHB HRB HFW HV V7 F7 hin htn HSB hab
        have HX := HX7
        have HY := HY7
        have HTB := HTB7
        have HHB := HHB7
        have HRB := HRB7
        have HFW := HFW7
        have HV := HV7
        have HSB := HSB7
        clear HX7 HY7 HTB7 HHB7 HRB7 HFW7 HV7 HSB7
        go_wp2_with fail
        obtain ⟨A1, c1, hva, _, _, _, _⟩ := wide_form HV.out.o1
        subst hva
        refine region_lateT 14 [52, 53, 54, 55, 56, 57, 58, 59, 60, 61, 62, 63, 64, 65] [66, 67] [(52, .val (.pointer (some ⟨vb, 1, none⟩))), (53, .val (.slice A1 L1.length c1)), (54, .val (.pointer (some ⟨p.b, 0, none⟩))), (55, .val (.int .i64 now)), (56, .val (.pointer (some ⟨sb, 1, none⟩))), (57, .val (.int .i64 oc)), (58, .val (.pointer (some ⟨hb, 1, none⟩))), (59, .val (.slice y.pos.A y.pos.l.length y.pos.c)), (60, .val (.int .i64 (i : Int))), (61, .val (.int .i64 (atL (i : Int) y.pos.l 0))), (62, .val (.pointer (some ⟨tb, 1, none⟩))), (63, .val (.slice x.pos.A x.pos.l.length x.pos.c)), (64, .val (.agg #[.int .i64 lk1.v, .int .i64 lk1.z, .bool lk1.b])), (65, .made W5.heap.size 59 1 #[.int .i64 lk1.v, .int .i64 lk1.z, .bool lk1.b])] (by kernel_rfl) (by kernel_rfl) (by kernel_rfl) (by decide) (by kernel_rfl) (by decide) (by kernel_rfl) ?_ ?_
        · intro i9 o9 ho him
          have hcase : i9 = 0 ∨ i9 = 1 ∨ i9 = 2 ∨ i9 = 3 ∨ i9 = 4 ∨ i9 = 5 ∨ i9 = 6 ∨ i9 = 7 ∨ i9 = 8 ∨ i9 = 9 ∨ i9 = 10 ∨ i9 = 11 ∨ i9 = 12 ∨ i9 = 13 := by omega
          clear him
          rcases hcase with rfl | rfl | rfl | rfl | rfl | rfl | rfl | rfl | rfl | rfl | rfl | rfl | rfl | rfl <;> (injection ho with ho; subst ho; intro a' w' hf hl)
          · have e0 : a'.eval (.tmp 5) = .pointer (some ⟨vb, 0, none⟩) := hl 5 (by decide)
            refine l_of rfl (v := .pointer (some ⟨vb, 1, none⟩)) (w' := w') (by clear hl; revert e0; generalize a'.eval = ev; intro e0; go_simp) (putL' (Fr.refl _ _) rfl)
          · have e0 : a'.eval (.tmp 52) = .pointer (some ⟨vb, 1, none⟩) := hl 52 (by decide)
            have cc := Te.four_cells (Is.fr (S := fun _ => False) (Is.drew HV.out.is) hf id)
            refine l_of rfl (v := .slice A1 L1.length c1) (w' := w') (by clear hl; revert e0; generalize a'.eval = ev; intro e0; go_simp) (putL' (Fr.refl _ _) rfl)
          · have e0 : a'.eval (.tmp 0) = .pointer (some ⟨p.b, 0, none⟩) := hl 0 (by decide)
            refine l_of rfl (v := .pointer (some ⟨p.b, 0, none⟩)) (w' := w') (by clear hl; revert e0; generalize a'.eval = ev; intro e0; go_simp) (putL' (Fr.refl _ _) rfl)
          · have e0 : a'.eval (.tmp 1) = .int .i64 now := hl 1 (by decide)
            refine l_of rfl (v := .int .i64 now) (w' := w') (by clear hl; revert e0; generalize a'.eval = ev; intro e0; go_simp) (putL' (Fr.refl _ _) rfl)
          · have e0 : a'.eval (.tmp 7) = .pointer (some ⟨sb, 0, none⟩) := hl 7 (by decide)
            refine l_of rfl (v := .pointer (some ⟨sb, 1, none⟩)) (w' := w') (by clear hl; revert e0; generalize a'.eval = ev; intro e0; go_simp) (putL' (Fr.refl _ _) rfl)
          · have e0 : a'.eval (.tmp 56) = .pointer (some ⟨sb, 1, none⟩) := hl 56 (by decide)
            have cc := Te.three6 (Is.fr (S := fun _ => False) (Is.drew HSB.out) hf id)
            refine l_of rfl (v := .int .i64 oc) (w' := w') (by clear hl; revert e0; generalize a'.eval = ev; intro e0; go_simp) (putL' (Fr.refl _ _) rfl)
          · have e0 : a'.eval (.tmp 9) = .pointer (some ⟨hb, 0, none⟩) := hl 9 (by decide)
            refine l_of rfl (v := .pointer (some ⟨hb, 1, none⟩)) (w' := w') (by clear hl; revert e0; generalize a'.eval = ev; intro e0; go_simp) (putL' (Fr.refl _ _) rfl)
          · have e0 : a'.eval (.tmp 58) = .pointer (some ⟨hb, 1, none⟩) := hl 58 (by decide)
            have cc := Te.four_cells (Is.fr (S := fun _ => False) (Is.drew HHB.out) hf id)
            refine l_of rfl (v := .slice y.pos.A y.pos.l.length y.pos.c) (w' := w') (by clear hl; revert e0; generalize a'.eval = ev; intro e0; go_simp) (putL' (Fr.refl _ _) rfl)
          · have e0 : a'.eval (.tmp 6) = .int .i64 (i : Int) := hl 6 (by decide)
            refine l_of rfl (v := .int .i64 (i : Int)) (w' := w') (by clear hl; revert e0; generalize a'.eval = ev; intro e0; go_simp) (putL' (Fr.refl _ _) rfl)
          · have e1 : a'.eval (.tmp 59) = .slice y.pos.A y.pos.l.length y.pos.c := hl 59 (by decide)
            have e2 : a'.eval (.tmp 60) = .int .i64 (i : Int) := hl 60 (by decide)
            refine Te.l_call2 enters_at e1 e2 ((at_any ((HY.out.fr ((Fr.refl _ W5).drew.trans hf fun _ _ h => h)).pos.rd) (HY.out.pos.le) (i : Int)).mono fun e w'' ⟨he, hw⟩ => ⟨_, he, by subst hw; exact putL' (Fr.refl _ _) rfl⟩)
          · have e0 : a'.eval (.tmp 8) = .pointer (some ⟨tb, 0, none⟩) := hl 8 (by decide)
            refine l_of rfl (v := .pointer (some ⟨tb, 1, none⟩)) (w' := w') (by clear hl; revert e0; generalize a'.eval = ev; intro e0; go_simp) (putL' (Fr.refl _ _) rfl)
          · have e0 : a'.eval (.tmp 62) = .pointer (some ⟨tb, 1, none⟩) := hl 62 (by decide)
            have cc := Te.four_cells (Is.fr (S := fun _ => False) (Is.drew HTB.out) hf id)
            refine l_of rfl (v := .slice x.pos.A x.pos.l.length x.pos.c) (w' := w') (by clear hl; revert e0; generalize a'.eval = ev; intro e0; go_simp) (putL' (Fr.refl _ _) rfl)
          · have e1 : a'.eval (.tmp 54) = .pointer (some ⟨p.b, 0, none⟩) := hl 54 (by decide)
            have e2 : a'.eval (.tmp 55) = .int .i64 now := hl 55 (by decide)
            have e3 : a'.eval (.tmp 57) = .int .i64 oc := hl 57 (by decide)
            have e4 : a'.eval (.tmp 61) = .int .i64 (atL (i : Int) y.pos.l 0) := hl 61 (by decide)
            have e5 : a'.eval (.tmp 63) = .slice x.pos.A x.pos.l.length x.pos.c := hl 63 (by decide)
            have e6 : a'.eval (.const (.int .i64 0)) = .int .i64 0 := rfl
            refine l_calln (vs := #[.pointer (some ⟨p.b, 0, none⟩), .int .i64 now, .int .i64 oc, .int .i64 (atL (i : Int) y.pos.l 0), .slice x.pos.A x.pos.l.length x.pos.c, .int .i64 0]) enters_look (by simp only [List.map_toArray, List.map_cons, List.map_nil, e1, e2, e3, e4, e5, e6]) ((look_any (HJ.out.fr0 (HFW.out.drew.trans hf fun _ _ h => h)) HZ.out now oc (atL (i : Int) y.pos.l 0) hnow (HX.out.fr ((Fr.refl _ W5).drew.trans hf fun _ _ h => h)).pos.rd HX.out.pos.le 0).mono fun e w'' ⟨he, hw⟩ => ⟨_, he, by rw [HLK1.out]; exact putL' hw rfl⟩)
          · have e0 : a'.eval (.tmp 64) = .agg #[.int .i64 lk1.v, .int .i64 lk1.z, .bool lk1.b] := hl 64 (by decide)
            refine l_of rfl (v := .slice (some ⟨w'.heap.size, 0, none⟩) 1 1) (w' := w'.alloc (.cells #[.int .i64 lk1.v, .int .i64 lk1.z, .bool lk1.b] 59)) (by clear hl; revert e0; generalize a'.eval = ev; intro e0; go_simp) (putL' ((Fr.refl _ _).alloc _) ⟨_, rfl, Is.new _ _ _, hf.size⟩)
        · intro val w' hf hT
          have e53 : val 53 = .slice A1 L1.length c1 := hT 53 (by decide)
          obtain ⟨ab, e65, iab, hab⟩ := (hT 65 (by decide) : (Sp.made _ _ _ _).p _ _)
          simp only [laidL, List.foldl_cons, List.foldl_nil, e53, e65]
          clear hT
          generalize val 52 = q52; generalize val 54 = q54; generalize val 55 = q55; generalize val 56 = q56; generalize val 57 = q57; generalize val 58 = q58; generalize val 59 = q59; generalize val 60 = q60; generalize val 61 = q61; generalize val 62 = q62; generalize val 63 = q63; generalize val 64 = q64
          simp only [List.setIfInBounds_toArray, List.set_cons_succ, List.set_cons_zero]
          have HV7 := HV.out.fr0 ((Fr.refl _ W5).drew.trans hf fun _ _ h => h)
          have hrd : Rd w' (some ⟨ab, 0, none⟩) [.int .i64 lk1.v, .int .i64 lk1.z, .bool lk1.b] := rd_is iab
          have hbs : w.heap.size ≤ w'.heap.size := Nat.le_trans HFW.out.size (by have := hf.size; simpa using this)
          obtain ⟨i0, hi0, hz0, hz1, hz2⟩ := info_parts Try.infoLk
          refine tail_append (n0 := 2) rfl rfl rfl (.tmp 53) (.tmp 65) 53 rfl w.heap.size 59 i0 _ 3 24 Try.underlying53 hi0 hz0 hz1 hz2 rfl (by decide) (.slice A1 L1.length c1) L1.length (cellsL L1) rfl HV7.o1 (some ⟨ab, 0, none⟩) 1 1 [.int .i64 lk1.v, .int .i64 lk1.z, .bool lk1.b] rfl rfl hrd (by intro u hu; simp at hu; rcases hu with rfl | rfl | rfl <;> rfl) (by unfold maxLen; omega) (by omega) hbs ?_
          intro v' w2 hown hgrow hat
          obtain ⟨A', c', hv', _, _, _, _⟩ := wide_form hown
          subst hv'
          have i2 := HV7.is.fr ((Fr.refl (fun q => (Value.slice A1 L1.length c1).ownBlock = some q) w').grown hgrow fun _ hk => .inl hk) (fun hq => wide_is_ne HV7.o1 HV7.is (by decide) hq)
          obtain ⟨m0, m1, m2, m3⟩ := Te.four_cells i2
          have z1 := i2.frozen 1
          obtain ⟨V7, f7⟩ := Vr.put1 (x := lk1) HV7 hown hgrow hat
          refine tailv (n := 1) rfl rfl rfl (v := .pointer (some ⟨vb, 1, none⟩)) (w' := w2) (by go_simp) ?_
          refine tail1 rfl rfl rfl (w' := w2.setCell ⟨vb, 1, none⟩ (.slice A' (L1.length + 1) c')) (by go_simp) ?_
          simp only [List.setIfInBounds_toArray, List.set_cons_succ, List.set_cons_zero]
          clear m0 m1 m2 m3 z1 i2 hown hgrow hrd iab hbs hat
          have F7 : Fr (fun q => q = vb ∨ (Value.slice A1 L1.length c1).ownBlock = some q) W5 (w2.setCell ⟨vb, 1, none⟩ (.slice A' (L1.length + 1) c')) := (((Fr.refl (fun _ => False) W5).drew.trans hf fun _ _ h => h).mono fun _ _ h => h.elim).trans f7 fun _ _ h => h
          clear f7 hf HV7
          generalize w2.setCell ⟨vb, 1, none⟩ (.slice A' (L1.length + 1) c') = W6 at *
          have hin : ∀ q, (q = vb ∨ (Value.slice A1 L1.length c1).ownBlock = some q) → w.heap.size ≤ q ∧ q < wa.heap.size ∧ q ≠ sb ∧ q ≠ rb := fun q hq => HIN.out q (by rcases hq with h | h; exact .inl h; exact .inr (.inr h))
          have htn := HTN.out
          have HX7 := Lib.hid (HX.out.off F7 (HOFF.out.1.mono fun q hq => ⟨(hin q hq).1, (hin q hq).2.1⟩))
          have HY7 := Lib.hid (HY.out.off F7 (HOFF.out.2.mono fun q hq => ⟨(hin q hq).1, (hin q hq).2.1⟩))
          have HTB7 := Lib.hid (HTB.out.fr F7 fun hq => by have := (hin _ hq).2.1; omega)
          have HHB7 := Lib.hid (HHB.out.fr F7 fun hq => by have := (hin _ hq).2.1; omega)
          have HRB7 := Lib.hid (HRB.out.fr F7 fun hq => (hin _ hq).2.2.2 rfl)
          have HSB7 := Lib.hid (HSB.out.fr F7 fun hq => (hin _ hq).2.2.1 rfl)
          have HFW7 := Lib.hid (HFW.out.trans F7 fun q hq h => by have := (hin q h).1; omega)
          have HV7 := Lib.hid V7
          clear HX HY HTB HHB HRB HFW HV V7 F7 hin htn HSB hab
          have HX := HX7
          have HY := HY7
          have HTB := HTB7
          have HHB := HHB7
          have HRB := HRB7
          have HFW := HFW7
          have HV := HV7
          have HSB := HSB7
          clear HX7 HY7 HTB7 HHB7 HRB7 HFW7 HV7 HSB7
          go_wp2_with fail
          go_roundw
          case rel => exact ⟨i + 1, _, _, by omega, by go_num, by rw [HO.out, HP.out]; exact HV.out, HRB.out, HFW.out⟩
          case measure => simp [intOf]; omega
    · have hie : i = C.l.length := by omega
      subst hie
      have hii : ¬ (C.l.length : Int) < (C.l.length : Int) := by omega
      obtain ⟨_, _, p2, p3, _, _, _, _, _, _, _, _⟩ := twelve (HJ.out.is.fr fr id)
      have HV0 := Lib.hid hv
      have HRB0 := Lib.hid hrb
      have HF0 := Lib.hid fr
      rw [HR0.out, HR1.out] at HV0
      clear hv hrb fr hlt hi
      obtain ⟨wy, hwy⟩ : ∃ wy, wy = wr := ⟨_, rfl⟩
      rw [← hwy] at HV0 HRB0 HF0 p2 p3 ⊢
      clear hwy
      go_wp2_with fail
      clear p2 p3 p0
      go_loopw [75] (fun v75 wr => ∃ (i : Nat) (v2 : Value), i ≤ C.cr.length ∧ v75 = .int .i64 (i : Nat) ∧ Vr wr w.heap.size vb v0 v1 v2 (.slice none 0 0) R0 R1 (rows (rshut C ks now) i) [] ∧ Is wr rb 55 #[.slice none 0 0, .slice none 0 0, .slice none 0 0, .slice none 0 0] ∧ Fr (fun _ => False) w wr) (fun v _ => C.cr.length - (intOf v).toNat)
      case atStart => exact ⟨0, _, Nat.zero_le _, rfl, HV0.out, HRB0.out, HF0.out⟩
      case round =>
        clear HV0 HRB0 HF0
        obtain ⟨i, v2, hi, rfl, hv, hrb, fr⟩ := hrel
        by_cases hlt : i < C.cr.length
        · have hii : (i : Int) < (C.cr.length : Int) := by omega
          obtain ⟨gs, os, hA, _, s0⟩ := Te.rd_int (HC.out.fr fr).crs hlt
          have hgd : C.cr.getD i 0 = C.cr[i] := by rw [List.getD_eq_getElem?_getD, List.getElem?_eq_getElem hlt]; rfl
          have HO := Lib.hid (rows_snoc (rshut C ks now) i)
          have HL2 : Hid (rshut C ks now i = lookF ks C.t.age now (ocF C.l C.cr[i]) (atL (i : Int) (hF C (ocF C.l C.cr[i])).shut 0) (sF ks (ocF C.l C.cr[i])).shut 0) := Lib.hid (by unfold rshut; rw [hgd])
          generalize rshut C ks now i = lk2 at *
          have hn2 := rows_length (rshut C ks now) i
          generalize rows (rshut C ks now) i = L2 at *
          generalize C.cr[i] = q at *
          have KO := oc_any (HJ.out.fr0 fr) (HC.out.fr fr) q
          obtain ⟨oc, hoc⟩ : ∃ oc, ocF C.l q = oc := ⟨_, rfl⟩
          rw [hoc] at KO HL2
          have HOC := Lib.hid hoc
          have KS1 := KS wr fr oc
          have HV := Lib.hid hv
          have HRB := Lib.hid hrb
          have HFW := Lib.hid fr
          clear hv hrb fr hgd hoc
          obtain ⟨wa, hwa⟩ : ∃ wa, wa = wr := ⟨_, rfl⟩
          rw [hA]
          rw [← hwa] at HV HRB HFW KO KS1 s0 ⊢
          clear hwa
          go_wp2_with fail
          refine KO.mono ?_
          rintro e w2 ⟨rfl, rfl⟩
          obtain ⟨wa, rfl⟩ : ∃ wa, wa = w2 := ⟨_, rfl⟩
          clear KO s0
          go_wp2_with fail
          refine KS1.mono ?_
          rintro e w3 ⟨x, y, rfl, hx, hy, okx, oky, hoff, f3⟩
          have HLK2 : Hid (lookF ks C.t.age now oc (atL (i : Int) y.shut.l 0) x.shut.l 0 = lk2) := Lib.hid (by rw [HL2.out, ← hy, ← hx]; rfl)
          clear KS1 HL2
          have HOFF := Lib.hid (hoff (fun q => w.heap.size ≤ q ∧ q < wa.heap.size) (fun q hq => hq.2) (HSO.out _ fun q hq => hq.1))
          have HIN : Hid (∀ q, q = vb ∨ v2.ownBlock = some q → w.heap.size ≤ q ∧ q < wa.heap.size ∧ q ≠ rb) := Lib.hid fun q hq => by
            rcases hq with rfl | hq
            · exact ⟨HV.out.hz, HV.out.is.lt, by have := HVB.out; omega⟩
            · exact ⟨(World.ownsRow.lt HV.out.o2 q hq).1, (World.ownsRow.lt HV.out.o2 q hq).2, row_ne HV.out.o2 HRB.out (by decide) q hq⟩
          clear hx hy hoff
          unfold Te.Sta.val
          have fb := ((Fr.refl (fun _ => False) w3).alloc (.cells #[.slice x.occ.A x.occ.l.length x.occ.c, .slice x.pos.A x.pos.l.length x.pos.c, .slice x.shut.A x.shut.l.length x.shut.c, .slice x.lamp.A x.lamp.l.length x.lamp.c] 65)).alloc (.cells #[.slice y.occ.A y.occ.l.length y.occ.c, .slice y.pos.A y.pos.l.length y.pos.c, .slice y.shut.A y.shut.l.length y.shut.c, .slice y.lamp.A y.lamp.l.length y.lamp.c] 33)
          have it : Is ((w3.alloc (.cells #[.slice x.occ.A x.occ.l.length x.occ.c, .slice x.pos.A x.pos.l.length x.pos.c, .slice x.shut.A x.shut.l.length x.shut.c, .slice x.lamp.A x.lamp.l.length x.lamp.c] 65)).alloc (.cells #[.slice y.occ.A y.occ.l.length y.occ.c, .slice y.pos.A y.pos.l.length y.pos.c, .slice y.shut.A y.shut.l.length y.shut.c, .slice y.lamp.A y.lamp.l.length y.lamp.c] 33)) w3.heap.size 65 #[.slice x.occ.A x.occ.l.length x.occ.c, .slice x.pos.A x.pos.l.length x.pos.c, .slice x.shut.A x.shut.l.length x.shut.c, .slice x.lamp.A x.lamp.l.length x.lamp.c] := (Is.new w3 65 #[.slice x.occ.A x.occ.l.length x.occ.c, .slice x.pos.A x.pos.l.length x.pos.c, .slice x.shut.A x.shut.l.length x.shut.c, .slice x.lamp.A x.lamp.l.length x.lamp.c]).alloc _
          have ihb : Is ((w3.alloc (.cells #[.slice x.occ.A x.occ.l.length x.occ.c, .slice x.pos.A x.pos.l.length x.pos.c, .slice x.shut.A x.shut.l.length x.shut.c, .slice x.lamp.A x.lamp.l.length x.lamp.c] 65)).alloc (.cells #[.slice y.occ.A y.occ.l.length y.occ.c, .slice y.pos.A y.pos.l.length y.pos.c, .slice y.shut.A y.shut.l.length y.shut.c, .slice y.lamp.A y.lamp.l.length y.lamp.c] 33)) (w3.heap.size + 1) 33 #[.slice y.occ.A y.occ.l.length y.occ.c, .slice y.pos.A y.pos.l.length y.pos.c, .slice y.shut.A y.shut.l.length y.shut.c, .slice y.lamp.A y.lamp.l.length y.lamp.c] := by
            have := Is.new (w3.alloc (.cells #[.slice x.occ.A x.occ.l.length x.occ.c, .slice x.pos.A x.pos.l.length x.pos.c, .slice x.shut.A x.shut.l.length x.shut.c, .slice x.lamp.A x.lamp.l.length x.lamp.c] 65)) 33 #[.slice y.occ.A y.occ.l.length y.occ.c, .slice y.pos.A y.pos.l.length y.pos.c, .slice y.shut.A y.shut.l.length y.shut.c, .slice y.lamp.A y.lamp.l.length y.lamp.c]
            simpa using this
          go_wp2_with fail
          obtain ⟨tb, htb⟩ : ∃ tb, tb = w3.heap.size := ⟨_, rfl⟩
          obtain ⟨hb, hhb⟩ : ∃ hb, hb = w3.heap.size + 1 := ⟨_, rfl⟩
          rw [← hhb] at ihb ⊢
          rw [← htb] at it ⊢
          have HTB := Lib.hid it
          have HHB := Lib.hid ihb
          have HX := Lib.hid (okx.fr fb)
          have HY := Lib.hid (oky.fr fb)
          have HTN : Hid (wa.heap.size ≤ tb ∧ wa.heap.size ≤ hb) := Lib.hid (by have h2 := f3.size; exact ⟨by omega, by omega⟩)
          have HV4 := Lib.hid ((HV.out.fr0 f3).fr0 fb)
          have HFW4 := Lib.hid (fr_nil (fr_nil HFW.out f3) fb)
          have HRB4 := Lib.hid ((HRB.out.fr f3 id).fr fb id)

          clear HV HFW HRB  it ihb htb hhb okx oky f3 fb
          have HV := HV4
          have HFW := HFW4
          have HRB := HRB4

          clear HV4 HFW4 HRB4 
          generalize (w3.alloc _).alloc _ = w4 at *
          obtain ⟨A2, c2, hva, _, _, _, _⟩ := wide_form HV.out.o2
          subst hva
          refine region_lateT 15 [88, 89, 90, 91, 92, 93, 94, 95, 96, 97, 98, 99, 100, 101, 102] [103, 104] [(88, .val (.pointer (some ⟨vb, 2, none⟩))), (89, .val (.slice A2 L2.length c2)), (90, .val (.pointer (some ⟨p.b, 0, none⟩))), (91, .val (.int .i64 now)), (92, .val (.pointer (some ⟨p.b, 0, none⟩))), (93, .val (.int .i64 q)), (94, .val (.int .i64 oc)), (95, .val (.pointer (some ⟨hb, 2, none⟩))), (96, .val (.slice y.shut.A y.shut.l.length y.shut.c)), (97, .val (.int .i64 (i : Int))), (98, .val (.int .i64 (atL (i : Int) y.shut.l 0))), (99, .val (.pointer (some ⟨tb, 2, none⟩))), (100, .val (.slice x.shut.A x.shut.l.length x.shut.c)), (101, .val (.agg #[.int .i64 lk2.v, .int .i64 lk2.z, .bool lk2.b])), (102, .made w4.heap.size 59 1 #[.int .i64 lk2.v, .int .i64 lk2.z, .bool lk2.b])] (by kernel_rfl) (by kernel_rfl) (by kernel_rfl) (by decide) (by kernel_rfl) (by decide) (by kernel_rfl) ?_ ?_
          · intro i9 o9 ho him
            have hcase : i9 = 0 ∨ i9 = 1 ∨ i9 = 2 ∨ i9 = 3 ∨ i9 = 4 ∨ i9 = 5 ∨ i9 = 6 ∨ i9 = 7 ∨ i9 = 8 ∨ i9 = 9 ∨ i9 = 10 ∨ i9 = 11 ∨ i9 = 12 ∨ i9 = 13 ∨ i9 = 14 := by omega
            clear him
            rcases hcase with rfl | rfl | rfl | rfl | rfl | rfl | rfl | rfl | rfl | rfl | rfl | rfl | rfl | rfl | rfl <;> (injection ho with ho; subst ho; intro a' w' hf hl)
            · have e0 : a'.eval (.tmp 5) = .pointer (some ⟨vb, 0, none⟩) := hl 5 (by decide)
              refine l_of rfl (v := .pointer (some ⟨vb, 2, none⟩)) (w' := w') (by clear hl; revert e0; generalize a'.eval = ev; intro e0; go_simp) (putL' (Fr.refl _ _) rfl)
            · have e0 : a'.eval (.tmp 88) = .pointer (some ⟨vb, 2, none⟩) := hl 88 (by decide)
              have cc := Te.four_cells (Is.fr (S := fun _ => False) (Is.drew HV.out.is) hf id)
              refine l_of rfl (v := .slice A2 L2.length c2) (w' := w') (by clear hl; revert e0; generalize a'.eval = ev; intro e0; go_simp) (putL' (Fr.refl _ _) rfl)
            · have e0 : a'.eval (.tmp 0) = .pointer (some ⟨p.b, 0, none⟩) := hl 0 (by decide)
              refine l_of rfl (v := .pointer (some ⟨p.b, 0, none⟩)) (w' := w') (by clear hl; revert e0; generalize a'.eval = ev; intro e0; go_simp) (putL' (Fr.refl _ _) rfl)
            · have e0 : a'.eval (.tmp 1) = .int .i64 now := hl 1 (by decide)
              refine l_of rfl (v := .int .i64 now) (w' := w') (by clear hl; revert e0; generalize a'.eval = ev; intro e0; go_simp) (putL' (Fr.refl _ _) rfl)
            · have e0 : a'.eval (.tmp 0) = .pointer (some ⟨p.b, 0, none⟩) := hl 0 (by decide)
              refine l_of rfl (v := .pointer (some ⟨p.b, 0, none⟩)) (w' := w') (by clear hl; revert e0; generalize a'.eval = ev; intro e0; go_simp) (putL' (Fr.refl _ _) rfl)
            · have e0 : a'.eval (.tmp 11) = .int .i64 q := hl 11 (by decide)
              refine l_of rfl (v := .int .i64 q) (w' := w') (by clear hl; revert e0; generalize a'.eval = ev; intro e0; go_simp) (putL' (Fr.refl _ _) rfl)
            · have e1 : a'.eval (.tmp 92) = .pointer (some ⟨p.b, 0, none⟩) := hl 92 (by decide)
              have e2 : a'.eval (.tmp 93) = .int .i64 q := hl 93 (by decide)
              refine Te.l_call2 enters_oc e1 e2 ((oc_any (HJ.out.fr0 (HFW.out.drew.trans hf fun _ _ h => h)) (HC.out.fr (HFW.out.drew.trans hf fun _ _ h => h)) q).mono fun e w'' ⟨he, hw⟩ => ⟨_, he, by subst hw; exact putL' (Fr.refl _ _) (congrArg (Value.int .i64) HOC.out)⟩)
            · have e0 : a'.eval (.tmp 13) = .pointer (some ⟨hb, 0, none⟩) := hl 13 (by decide)
              refine l_of rfl (v := .pointer (some ⟨hb, 2, none⟩)) (w' := w') (by clear hl; revert e0; generalize a'.eval = ev; intro e0; go_simp) (putL' (Fr.refl _ _) rfl)
            · have e0 : a'.eval (.tmp 95) = .pointer (some ⟨hb, 2, none⟩) := hl 95 (by decide)
              have cc := Te.four_cells (Is.fr (S := fun _ => False) (Is.drew HHB.out) hf id)
              refine l_of rfl (v := .slice y.shut.A y.shut.l.length y.shut.c) (w' := w') (by clear hl; revert e0; generalize a'.eval = ev; intro e0; go_simp) (putL' (Fr.refl _ _) rfl)
            · have e0 : a'.eval (.tmp 10) = .int .i64 (i : Int) := hl 10 (by decide)
              refine l_of rfl (v := .int .i64 (i : Int)) (w' := w') (by clear hl; revert e0; generalize a'.eval = ev; intro e0; go_simp) (putL' (Fr.refl _ _) rfl)
            · have e1 : a'.eval (.tmp 96) = .slice y.shut.A y.shut.l.length y.shut.c := hl 96 (by decide)
              have e2 : a'.eval (.tmp 97) = .int .i64 (i : Int) := hl 97 (by decide)
              refine Te.l_call2 enters_at e1 e2 ((at_any ((HY.out.fr ((Fr.refl _ w4).drew.trans hf fun _ _ h => h)).shut.rd) (HY.out.shut.le) (i : Int)).mono fun e w'' ⟨he, hw⟩ => ⟨_, he, by subst hw; exact putL' (Fr.refl _ _) rfl⟩)
            · have e0 : a'.eval (.tmp 12) = .pointer (some ⟨tb, 0, none⟩) := hl 12 (by decide)
              refine l_of rfl (v := .pointer (some ⟨tb, 2, none⟩)) (w' := w') (by clear hl; revert e0; generalize a'.eval = ev; intro e0; go_simp) (putL' (Fr.refl _ _) rfl)
            · have e0 : a'.eval (.tmp 99) = .pointer (some ⟨tb, 2, none⟩) := hl 99 (by decide)
              have cc := Te.four_cells (Is.fr (S := fun _ => False) (Is.drew HTB.out) hf id)
              refine l_of rfl (v := .slice x.shut.A x.shut.l.length x.shut.c) (w' := w') (by clear hl; revert e0; generalize a'.eval = ev; intro e0; go_simp) (putL' (Fr.refl _ _) rfl)
            · have e1 : a'.eval (.tmp 90) = .pointer (some ⟨p.b, 0, none⟩) := hl 90 (by decide)
              have e2 : a'.eval (.tmp 91) = .int .i64 now := hl 91 (by decide)
              have e3 : a'.eval (.tmp 94) = .int .i64 oc := hl 94 (by decide)
              have e4 : a'.eval (.tmp 98) = .int .i64 (atL (i : Int) y.shut.l 0) := hl 98 (by decide)
              have e5 : a'.eval (.tmp 100) = .slice x.shut.A x.shut.l.length x.shut.c := hl 100 (by decide)
              have e6 : a'.eval (.const (.int .i64 0)) = .int .i64 0 := rfl
              refine l_calln (vs := #[.pointer (some ⟨p.b, 0, none⟩), .int .i64 now, .int .i64 oc, .int .i64 (atL (i : Int) y.shut.l 0), .slice x.shut.A x.shut.l.length x.shut.c, .int .i64 0]) enters_look (by simp only [List.map_toArray, List.map_cons, List.map_nil, e1, e2, e3, e4, e5, e6]) ((look_any (HJ.out.fr0 (HFW.out.drew.trans hf fun _ _ h => h)) HZ.out now oc (atL (i : Int) y.shut.l 0) hnow (HX.out.fr ((Fr.refl _ w4).drew.trans hf fun _ _ h => h)).shut.rd HX.out.shut.le 0).mono fun e w'' ⟨he, hw⟩ => ⟨_, he, by rw [HLK2.out]; exact putL' hw rfl⟩)
            · have e0 : a'.eval (.tmp 101) = .agg #[.int .i64 lk2.v, .int .i64 lk2.z, .bool lk2.b] := hl 101 (by decide)
              refine l_of rfl (v := .slice (some ⟨w'.heap.size, 0, none⟩) 1 1) (w' := w'.alloc (.cells #[.int .i64 lk2.v, .int .i64 lk2.z, .bool lk2.b] 59)) (by clear hl; revert e0; generalize a'.eval = ev; intro e0; go_simp) (putL' ((Fr.refl _ _).alloc _) ⟨_, rfl, Is.new _ _ _, hf.size⟩)
          · intro val w' hf hT
            have e89 : val 89 = .slice A2 L2.length c2 := hT 89 (by decide)
            obtain ⟨ab, e102, iab, hab⟩ := (hT 102 (by decide) : (Sp.made _ _ _ _).p _ _)
            simp only [laidL, List.foldl_cons, List.foldl_nil, e89, e102]
            clear hT
            generalize val 88 = q88; generalize val 90 = q90; generalize val 91 = q91; generalize val 92 = q92; generalize val 93 = q93; generalize val 94 = q94; generalize val 95 = q95; generalize val 96 = q96; generalize val 97 = q97; generalize val 98 = q98; generalize val 99 = q99; generalize val 100 = q100; generalize val 101 = q101
            simp only [List.setIfInBounds_toArray, List.set_cons_succ, List.set_cons_zero]
            have HV7 := HV.out.fr0 ((Fr.refl _ w4).drew.trans hf fun _ _ h => h)
            have hrd : Rd w' (some ⟨ab, 0, none⟩) [.int .i64 lk2.v, .int .i64 lk2.z, .bool lk2.b] := rd_is iab
            have hbs : w.heap.size ≤ w'.heap.size := Nat.le_trans HFW.out.size (by have := hf.size; simpa using this)
            obtain ⟨i0, hi0, hz0, hz1, hz2⟩ := info_parts Try.infoLk
            refine tail_append (n0 := 2) rfl rfl rfl (.tmp 89) (.tmp 102) 53 rfl w.heap.size 59 i0 _ 3 24 Try.underlying53 hi0 hz0 hz1 hz2 rfl (by decide) (.slice A2 L2.length c2) L2.length (cellsL L2) rfl HV7.o2 (some ⟨ab, 0, none⟩) 1 1 [.int .i64 lk2.v, .int .i64 lk2.z, .bool lk2.b] rfl rfl hrd (by intro u hu; simp at hu; rcases hu with rfl | rfl | rfl <;> rfl) (by unfold maxLen; omega) (by omega) hbs ?_
            intro v' w2 hown hgrow hat
            obtain ⟨A', c', hv', _, _, _, _⟩ := wide_form hown
            subst hv'
            have i2 := HV7.is.fr ((Fr.refl (fun q => (Value.slice A2 L2.length c2).ownBlock = some q) w').grown hgrow fun _ hk => .inl hk) (fun hq => wide_is_ne HV7.o2 HV7.is (by decide) hq)
            obtain ⟨m0, m1, m2, m3⟩ := Te.four_cells i2
            have z2 := i2.frozen 2
            obtain ⟨V7, f7⟩ := Vr.put2 (x := lk2) HV7 hown hgrow hat
            refine tailv (n := 1) rfl rfl rfl (v := .pointer (some ⟨vb, 2, none⟩)) (w' := w2) (by go_simp) ?_
            refine tail1 rfl rfl rfl (w' := w2.setCell ⟨vb, 2, none⟩ (.slice A' (L2.length + 1) c')) (by go_simp) ?_
            simp only [List.setIfInBounds_toArray, List.set_cons_succ, List.set_cons_zero]
            clear m0 m1 m2 m3 z2 i2 hown hgrow hrd iab hbs hat
            have F7 : Fr (fun q => q = vb ∨ (Value.slice A2 L2.length c2).ownBlock = some q) w4 (w2.setCell ⟨vb, 2, none⟩ (.slice A' (L2.length + 1) c')) := (((Fr.refl (fun _ => False) w4).drew.trans hf fun _ _ h => h).mono fun _ _ h => h.elim).trans f7 fun _ _ h => h
            clear f7 hf HV7
            generalize w2.setCell ⟨vb, 2, none⟩ (.slice A' (L2.length + 1) c') = W5 at *
            have hin : ∀ q, (q = vb ∨ (Value.slice A2 L2.length c2).ownBlock = some q) → w.heap.size ≤ q ∧ q < wa.heap.size ∧ q ≠ rb := fun q hq => HIN.out q hq
            have htn := HTN.out
            have HX7 := Lib.hid (HX.out.off F7 (HOFF.out.1.mono fun q hq => ⟨(hin q hq).1, (hin q hq).2.1⟩))
            have HY7 := Lib.hid (HY.out.off F7 (HOFF.out.2.mono fun q hq => ⟨(hin q hq).1, (hin q hq).2.1⟩))
            have HTB7 := Lib.hid (HTB.out.fr F7 fun hq => by have := (hin _ hq).2.1; omega)
            have HHB7 := Lib.hid (HHB.out.fr F7 fun hq => by have := (hin _ hq).2.1; omega)
            have HRB7 := Lib.hid (HRB.out.fr F7 fun hq => (hin _ hq).2.2 rfl)

            have HFW7 := Lib.hid (HFW.out.trans F7 fun q hq h => by have := (hin q h).1; omega)
            have HV7 := Lib.hid V7
            clear HX HY HTB HHB HRB HFW HV V7 F7 hin htn  hab
            have HX := HX7
            have HY := HY7
            have HTB := HTB7
            have HHB := HHB7
            have HRB := HRB7
            have HFW := HFW7
            have HV := HV7

            clear HX7 HY7 HTB7 HHB7 HRB7 HFW7 HV7 
            go_wp2_with fail
            go_roundw
            case rel => exact ⟨i + 1, _, by omega, by go_num, by rw [HO.out]; exact HV.out, HRB.out, HFW.out⟩
            case measure => simp [intOf]; omega
        · have hie : i = C.cr.length := by omega
          subst hie
          have hii : ¬ (C.cr.length : Int) < (C.cr.length : Int) := by omega
          obtain ⟨_, _, p2, _, _, _, _, _, _, _, _, _⟩ := twelve (HJ.out.is.fr fr id)
          have HV0 := Lib.hid hv
          have HRB0 := Lib.hid hrb
          have HF0 := Lib.hid fr
          rw [HR2.out] at HV0
          clear hv hrb fr hlt hi
          obtain ⟨wy, hwy⟩ : ∃ wy, wy = wr := ⟨_, rfl⟩
          rw [← hwy] at HV0 HRB0 HF0 p2 ⊢
          clear hwy
          go_wp2_with fail
          clear p2
          go_loopw [112] (fun v112 wr => ∃ (i : Nat) (v3 : Value), i ≤ C.sg.length ∧ v112 = .int .i64 (i : Nat) ∧ Vr wr w.heap.size vb v0 v1 v2 v3 R0 R1 R2 (rows (rlamp C ks now) i) ∧ Is wr rb 55 #[.slice none 0 0, .slice none 0 0, .slice none 0 0, .slice none 0 0] ∧ Fr (fun _ => False) w wr) (fun v _ => C.sg.length - (intOf v).toNat)
          case atStart => exact ⟨0, _, Nat.zero_le _, rfl, HV0.out, HRB0.out, HF0.out⟩
          case round =>
            clear HV0 HRB0 HF0
            obtain ⟨i, v3, hi, rfl, hv, hrb, fr⟩ := hrel
            by_cases hlt : i < C.sg.length
            · have hii : (i : Int) < (C.sg.length : Int) := by omega
              obtain ⟨gs, os, hA, _, s0, s1⟩ := Te.rd_sg (HC.out.fr fr).sigs hlt
              have hgd : C.sg.getD i default = C.sg[i] := by rw [List.getD_eq_getElem?_getD, List.getElem?_eq_getElem hlt]; rfl
              have HO := Lib.hid (rows_snoc (rlamp C ks now) i)
              have HL3 : Hid (rlamp C ks now i = lookF ks C.t.age now (ocF C.l C.sg[i].sec) (atL (i : Int) (hF C (ocF C.l C.sg[i].sec)).lamp 0) (sF ks (ocF C.l C.sg[i].sec)).lamp 0) := Lib.hid (by unfold rlamp; rw [hgd])
              generalize rlamp C ks now i = lk3 at *
              have hn3 := rows_length (rlamp C ks now) i
              generalize rows (rlamp C ks now) i = L3 at *
              generalize C.sg[i].sec = q at *
              generalize C.sg[i].fin = qf at *
              have fal := (Fr.refl (fun _ => False) wr).alloc (.cells #[.int .i64 q, .int .i64 qf] 40)
              have KO := oc_any (HJ.out.fr0 (fr_nil fr fal)) (HC.out.fr (fr_nil fr fal)) q
              obtain ⟨oc, hoc⟩ : ∃ oc, ocF C.l q = oc := ⟨_, rfl⟩
              rw [hoc] at KO HL3
              have HOC := Lib.hid hoc
              have KS1 := KS _ (fr_nil fr fal) oc
              have isb := Is.new wr 40 #[.int .i64 q, .int .i64 qf]
              have g0 : _ = some (Value.int .i64 q) := (isb.cell 0).trans rfl
              have g1 : _ = some (Value.int .i64 qf) := (isb.cell 1).trans rfl
              obtain ⟨sb, hsb⟩ : ∃ sb, sb = wr.heap.size := ⟨_, rfl⟩
              rw [← hsb] at isb
              have HV := Lib.hid (hv.fr0 fal)
              have HRB := Lib.hid (hrb.fr fal id)
              have HFW := Lib.hid (fr_nil fr fal)
              have HSB := Lib.hid isb
              have HSBN : Hid (sb ≠ vb) := Lib.hid (by have := hv.is.lt; omega)
              clear isb hv hrb fr hgd fal hoc
              rw [hA]
              go_wp2_with fail
              rw [← hsb]
              clear hsb g0 g1 s0 s1
              generalize wr.alloc _ = wa at *
              refine KO.mono ?_
              rintro e w2 ⟨rfl, rfl⟩
              obtain ⟨wa, rfl⟩ : ∃ wa, wa = w2 := ⟨_, rfl⟩
              clear KO
              go_wp2_with fail
              refine KS1.mono ?_
              rintro e w3 ⟨x, y, rfl, hx, hy, okx, oky, hoff, f3⟩
              have HLK3 : Hid (lookF ks C.t.age now oc (atL (i : Int) y.lamp.l 0) x.lamp.l 0 = lk3) := Lib.hid (by rw [HL3.out, ← hy, ← hx]; rfl)
              clear KS1 HL3
              have HOFF := Lib.hid (hoff (fun q => w.heap.size ≤ q ∧ q < wa.heap.size) (fun q hq => hq.2) (HSO.out _ fun q hq => hq.1))
              have HIN : Hid (∀ q, q = vb ∨ v3.ownBlock = some q → w.heap.size ≤ q ∧ q < wa.heap.size ∧ q ≠ sb ∧ q ≠ rb) := Lib.hid fun q hq => by
                rcases hq with rfl | hq
                · exact ⟨HV.out.hz, HV.out.is.lt, fun e => HSBN.out e.symm, by have := HVB.out; omega⟩
                · exact ⟨(World.ownsRow.lt HV.out.o3 q hq).1, (World.ownsRow.lt HV.out.o3 q hq).2, row_ne HV.out.o3 HSB.out (by decide) q hq, row_ne HV.out.o3 HRB.out (by decide) q hq⟩
              clear hx hy hoff
              unfold Te.Sta.val
              have fb := ((Fr.refl (fun _ => False) w3).alloc (.cells #[.slice x.occ.A x.occ.l.length x.occ.c, .slice x.pos.A x.pos.l.length x.pos.c, .slice x.shut.A x.shut.l.length x.shut.c, .slice x.lamp.A x.lamp.l.length x.lamp.c] 65)).alloc (.cells #[.slice y.occ.A y.occ.l.length y.occ.c, .slice y.pos.A y.pos.l.length y.pos.c, .slice y.shut.A y.shut.l.length y.shut.c, .slice y.lamp.A y.lamp.l.length y.lamp.c] 33)
              have it : Is ((w3.alloc (.cells #[.slice x.occ.A x.occ.l.length x.occ.c, .slice x.pos.A x.pos.l.length x.pos.c, .slice x.shut.A x.shut.l.length x.shut.c, .slice x.lamp.A x.lamp.l.length x.lamp.c] 65)).alloc (.cells #[.slice y.occ.A y.occ.l.length y.occ.c, .slice y.pos.A y.pos.l.length y.pos.c, .slice y.shut.A y.shut.l.length y.shut.c, .slice y.lamp.A y.lamp.l.length y.lamp.c] 33)) w3.heap.size 65 #[.slice x.occ.A x.occ.l.length x.occ.c, .slice x.pos.A x.pos.l.length x.pos.c, .slice x.shut.A x.shut.l.length x.shut.c, .slice x.lamp.A x.lamp.l.length x.lamp.c] := (Is.new w3 65 #[.slice x.occ.A x.occ.l.length x.occ.c, .slice x.pos.A x.pos.l.length x.pos.c, .slice x.shut.A x.shut.l.length x.shut.c, .slice x.lamp.A x.lamp.l.length x.lamp.c]).alloc _
              have ihb : Is ((w3.alloc (.cells #[.slice x.occ.A x.occ.l.length x.occ.c, .slice x.pos.A x.pos.l.length x.pos.c, .slice x.shut.A x.shut.l.length x.shut.c, .slice x.lamp.A x.lamp.l.length x.lamp.c] 65)).alloc (.cells #[.slice y.occ.A y.occ.l.length y.occ.c, .slice y.pos.A y.pos.l.length y.pos.c, .slice y.shut.A y.shut.l.length y.shut.c, .slice y.lamp.A y.lamp.l.length y.lamp.c] 33)) (w3.heap.size + 1) 33 #[.slice y.occ.A y.occ.l.length y.occ.c, .slice y.pos.A y.pos.l.length y.pos.c, .slice y.shut.A y.shut.l.length y.shut.c, .slice y.lamp.A y.lamp.l.length y.lamp.c] := by
                have := Is.new (w3.alloc (.cells #[.slice x.occ.A x.occ.l.length x.occ.c, .slice x.pos.A x.pos.l.length x.pos.c, .slice x.shut.A x.shut.l.length x.shut.c, .slice x.lamp.A x.lamp.l.length x.lamp.c] 65)) 33 #[.slice y.occ.A y.occ.l.length y.occ.c, .slice y.pos.A y.pos.l.length y.pos.c, .slice y.shut.A y.shut.l.length y.shut.c, .slice y.lamp.A y.lamp.l.length y.lamp.c]
                simpa using this
              go_wp2_with fail
              obtain ⟨tb, htb⟩ : ∃ tb, tb = w3.heap.size := ⟨_, rfl⟩
              obtain ⟨hb, hhb⟩ : ∃ hb, hb = w3.heap.size + 1 := ⟨_, rfl⟩
              rw [← hhb] at ihb ⊢
              rw [← htb] at it ⊢
              have HTB := Lib.hid it
              have HHB := Lib.hid ihb
              have HX := Lib.hid (okx.fr fb)
              have HY := Lib.hid (oky.fr fb)
              have HTN : Hid (wa.heap.size ≤ tb ∧ wa.heap.size ≤ hb) := Lib.hid (by have h2 := f3.size; exact ⟨by omega, by omega⟩)
              have HV4 := Lib.hid ((HV.out.fr0 f3).fr0 fb)
              have HFW4 := Lib.hid (fr_nil (fr_nil HFW.out f3) fb)
              have HRB4 := Lib.hid ((HRB.out.fr f3 id).fr fb id)
              have HSB4 := Lib.hid ((HSB.out.fr f3 id).fr fb id)
              clear HV HFW HRB HSB it ihb htb hhb okx oky f3 fb
              have HV := HV4
              have HFW := HFW4
              have HRB := HRB4
              have HSB := HSB4
              clear HV4 HFW4 HRB4 HSB4
              generalize (w3.alloc _).alloc _ = w4 at *
              obtain ⟨A3, c3, hva, _, _, _, _⟩ := wide_form HV.out.o3
              subst hva
              refine region_lateT 16 [126, 127, 128, 129, 130, 131, 132, 133, 134, 135, 136, 137, 138, 139, 140, 141] [142, 143] [(126, .val (.pointer (some ⟨vb, 3, none⟩))), (127, .val (.slice A3 L3.length c3)), (128, .val (.pointer (some ⟨p.b, 0, none⟩))), (129, .val (.int .i64 now)), (130, .val (.pointer (some ⟨p.b, 0, none⟩))), (131, .val (.pointer (some ⟨sb, 0, none⟩))), (132, .val (.int .i64 q)), (133, .val (.int .i64 oc)), (134, .val (.pointer (some ⟨hb, 3, none⟩))), (135, .val (.slice y.lamp.A y.lamp.l.length y.lamp.c)), (136, .val (.int .i64 (i : Int))), (137, .val (.int .i64 (atL (i : Int) y.lamp.l 0))), (138, .val (.pointer (some ⟨tb, 3, none⟩))), (139, .val (.slice x.lamp.A x.lamp.l.length x.lamp.c)), (140, .val (.agg #[.int .i64 lk3.v, .int .i64 lk3.z, .bool lk3.b])), (141, .made w4.heap.size 59 1 #[.int .i64 lk3.v, .int .i64 lk3.z, .bool lk3.b])] (by kernel_rfl) (by kernel_rfl) (by kernel_rfl) (by decide) (by kernel_rfl) (by decide) (by kernel_rfl) ?_ ?_
              · intro i9 o9 ho him
                have hcase : i9 = 0 ∨ i9 = 1 ∨ i9 = 2 ∨ i9 = 3 ∨ i9 = 4 ∨ i9 = 5 ∨ i9 = 6 ∨ i9 = 7 ∨ i9 = 8 ∨ i9 = 9 ∨ i9 = 10 ∨ i9 = 11 ∨ i9 = 12 ∨ i9 = 13 ∨ i9 = 14 ∨ i9 = 15 := by omega
                clear him
                rcases hcase with rfl | rfl | rfl | rfl | rfl | rfl | rfl | rfl | rfl | rfl | rfl | rfl | rfl | rfl | rfl | rfl <;> (injection ho with ho; subst ho; intro a' w' hf hl)
                · have e0 : a'.eval (.tmp 5) = .pointer (some ⟨vb, 0, none⟩) := hl 5 (by decide)
                  refine l_of rfl (v := .pointer (some ⟨vb, 3, none⟩)) (w' := w') (by clear hl; revert e0; generalize a'.eval = ev; intro e0; go_simp) (putL' (Fr.refl _ _) rfl)
                · have e0 : a'.eval (.tmp 126) = .pointer (some ⟨vb, 3, none⟩) := hl 126 (by decide)
                  have cc := Te.four_cells (Is.fr (S := fun _ => False) (Is.drew HV.out.is) hf id)
                  refine l_of rfl (v := .slice A3 L3.length c3) (w' := w') (by clear hl; revert e0; generalize a'.eval = ev; intro e0; go_simp) (putL' (Fr.refl _ _) rfl)
                · have e0 : a'.eval (.tmp 0) = .pointer (some ⟨p.b, 0, none⟩) := hl 0 (by decide)
                  refine l_of rfl (v := .pointer (some ⟨p.b, 0, none⟩)) (w' := w') (by clear hl; revert e0; generalize a'.eval = ev; intro e0; go_simp) (putL' (Fr.refl _ _) rfl)
                · have e0 : a'.eval (.tmp 1) = .int .i64 now := hl 1 (by decide)
                  refine l_of rfl (v := .int .i64 now) (w' := w') (by clear hl; revert e0; generalize a'.eval = ev; intro e0; go_simp) (putL' (Fr.refl _ _) rfl)
                · have e0 : a'.eval (.tmp 0) = .pointer (some ⟨p.b, 0, none⟩) := hl 0 (by decide)
                  refine l_of rfl (v := .pointer (some ⟨p.b, 0, none⟩)) (w' := w') (by clear hl; revert e0; generalize a'.eval = ev; intro e0; go_simp) (putL' (Fr.refl _ _) rfl)
                · have e0 : a'.eval (.tmp 15) = .pointer (some ⟨sb, 0, none⟩) := hl 15 (by decide)
                  refine l_of rfl (v := .pointer (some ⟨sb, 0, none⟩)) (w' := w') (by clear hl; revert e0; generalize a'.eval = ev; intro e0; go_simp) (putL' (Fr.refl _ _) rfl)
                · have e0 : a'.eval (.tmp 131) = .pointer (some ⟨sb, 0, none⟩) := hl 131 (by decide)
                  have cc := (Is.fr (S := fun _ => False) (Is.drew HSB.out) hf id).cell 0
                  have c0 : w'.cell? ⟨sb, 0, none⟩ = some (.int .i64 q) := cc.trans rfl
                  refine l_of rfl (v := .int .i64 q) (w' := w') (by clear hl; revert e0; generalize a'.eval = ev; intro e0; go_simp) (putL' (Fr.refl _ _) rfl)
                · have e1 : a'.eval (.tmp 130) = .pointer (some ⟨p.b, 0, none⟩) := hl 130 (by decide)
                  have e2 : a'.eval (.tmp 132) = .int .i64 q := hl 132 (by decide)
                  refine Te.l_call2 enters_oc e1 e2 ((oc_any (HJ.out.fr0 (HFW.out.drew.trans hf fun _ _ h => h)) (HC.out.fr (HFW.out.drew.trans hf fun _ _ h => h)) q).mono fun e w'' ⟨he, hw⟩ => ⟨_, he, by subst hw; exact putL' (Fr.refl _ _) (congrArg (Value.int .i64) HOC.out)⟩)
                · have e0 : a'.eval (.tmp 17) = .pointer (some ⟨hb, 0, none⟩) := hl 17 (by decide)
                  refine l_of rfl (v := .pointer (some ⟨hb, 3, none⟩)) (w' := w') (by clear hl; revert e0; generalize a'.eval = ev; intro e0; go_simp) (putL' (Fr.refl _ _) rfl)
                · have e0 : a'.eval (.tmp 134) = .pointer (some ⟨hb, 3, none⟩) := hl 134 (by decide)
                  have cc := Te.four_cells (Is.fr (S := fun _ => False) (Is.drew HHB.out) hf id)
                  refine l_of rfl (v := .slice y.lamp.A y.lamp.l.length y.lamp.c) (w' := w') (by clear hl; revert e0; generalize a'.eval = ev; intro e0; go_simp) (putL' (Fr.refl _ _) rfl)
                · have e0 : a'.eval (.tmp 14) = .int .i64 (i : Int) := hl 14 (by decide)
                  refine l_of rfl (v := .int .i64 (i : Int)) (w' := w') (by clear hl; revert e0; generalize a'.eval = ev; intro e0; go_simp) (putL' (Fr.refl _ _) rfl)
                · have e1 : a'.eval (.tmp 135) = .slice y.lamp.A y.lamp.l.length y.lamp.c := hl 135 (by decide)
                  have e2 : a'.eval (.tmp 136) = .int .i64 (i : Int) := hl 136 (by decide)
                  refine Te.l_call2 enters_at e1 e2 ((at_any ((HY.out.fr ((Fr.refl _ w4).drew.trans hf fun _ _ h => h)).lamp.rd) (HY.out.lamp.le) (i : Int)).mono fun e w'' ⟨he, hw⟩ => ⟨_, he, by subst hw; exact putL' (Fr.refl _ _) rfl⟩)
                · have e0 : a'.eval (.tmp 16) = .pointer (some ⟨tb, 0, none⟩) := hl 16 (by decide)
                  refine l_of rfl (v := .pointer (some ⟨tb, 3, none⟩)) (w' := w') (by clear hl; revert e0; generalize a'.eval = ev; intro e0; go_simp) (putL' (Fr.refl _ _) rfl)
                · have e0 : a'.eval (.tmp 138) = .pointer (some ⟨tb, 3, none⟩) := hl 138 (by decide)
                  have cc := Te.four_cells (Is.fr (S := fun _ => False) (Is.drew HTB.out) hf id)
                  refine l_of rfl (v := .slice x.lamp.A x.lamp.l.length x.lamp.c) (w' := w') (by clear hl; revert e0; generalize a'.eval = ev; intro e0; go_simp) (putL' (Fr.refl _ _) rfl)
                · have e1 : a'.eval (.tmp 128) = .pointer (some ⟨p.b, 0, none⟩) := hl 128 (by decide)
                  have e2 : a'.eval (.tmp 129) = .int .i64 now := hl 129 (by decide)
                  have e3 : a'.eval (.tmp 133) = .int .i64 oc := hl 133 (by decide)
                  have e4 : a'.eval (.tmp 137) = .int .i64 (atL (i : Int) y.lamp.l 0) := hl 137 (by decide)
                  have e5 : a'.eval (.tmp 139) = .slice x.lamp.A x.lamp.l.length x.lamp.c := hl 139 (by decide)
                  have e6 : a'.eval (.const (.int .i64 0)) = .int .i64 0 := rfl
                  refine l_calln (vs := #[.pointer (some ⟨p.b, 0, none⟩), .int .i64 now, .int .i64 oc, .int .i64 (atL (i : Int) y.lamp.l 0), .slice x.lamp.A x.lamp.l.length x.lamp.c, .int .i64 0]) enters_look (by simp only [List.map_toArray, List.map_cons, List.map_nil, e1, e2, e3, e4, e5, e6]) ((look_any (HJ.out.fr0 (HFW.out.drew.trans hf fun _ _ h => h)) HZ.out now oc (atL (i : Int) y.lamp.l 0) hnow (HX.out.fr ((Fr.refl _ w4).drew.trans hf fun _ _ h => h)).lamp.rd HX.out.lamp.le 0).mono fun e w'' ⟨he, hw⟩ => ⟨_, he, by rw [HLK3.out]; exact putL' hw rfl⟩)
                · have e0 : a'.eval (.tmp 140) = .agg #[.int .i64 lk3.v, .int .i64 lk3.z, .bool lk3.b] := hl 140 (by decide)
                  refine l_of rfl (v := .slice (some ⟨w'.heap.size, 0, none⟩) 1 1) (w' := w'.alloc (.cells #[.int .i64 lk3.v, .int .i64 lk3.z, .bool lk3.b] 59)) (by clear hl; revert e0; generalize a'.eval = ev; intro e0; go_simp) (putL' ((Fr.refl _ _).alloc _) ⟨_, rfl, Is.new _ _ _, hf.size⟩)
              · intro val w' hf hT
                have e127 : val 127 = .slice A3 L3.length c3 := hT 127 (by decide)
                obtain ⟨ab, e141, iab, hab⟩ := (hT 141 (by decide) : (Sp.made _ _ _ _).p _ _)
                simp only [laidL, List.foldl_cons, List.foldl_nil, e127, e141]
                clear hT
                generalize val 126 = q126; generalize val 128 = q128; generalize val 129 = q129; generalize val 130 = q130; generalize val 131 = q131; generalize val 132 = q132; generalize val 133 = q133; generalize val 134 = q134; generalize val 135 = q135; generalize val 136 = q136; generalize val 137 = q137; generalize val 138 = q138; generalize val 139 = q139; generalize val 140 = q140
                simp only [List.setIfInBounds_toArray, List.set_cons_succ, List.set_cons_zero]
                have HV7 := HV.out.fr0 ((Fr.refl _ w4).drew.trans hf fun _ _ h => h)
                have hrd : Rd w' (some ⟨ab, 0, none⟩) [.int .i64 lk3.v, .int .i64 lk3.z, .bool lk3.b] := rd_is iab
                have hbs : w.heap.size ≤ w'.heap.size := Nat.le_trans HFW.out.size (by have := hf.size; simpa using this)
                obtain ⟨i0, hi0, hz0, hz1, hz2⟩ := info_parts Try.infoLk
                refine tail_append (n0 := 2) rfl rfl rfl (.tmp 127) (.tmp 141) 53 rfl w.heap.size 59 i0 _ 3 24 Try.underlying53 hi0 hz0 hz1 hz2 rfl (by decide) (.slice A3 L3.length c3) L3.length (cellsL L3) rfl HV7.o3 (some ⟨ab, 0, none⟩) 1 1 [.int .i64 lk3.v, .int .i64 lk3.z, .bool lk3.b] rfl rfl hrd (by intro u hu; simp at hu; rcases hu with rfl | rfl | rfl <;> rfl) (by unfold maxLen; omega) (by omega) hbs ?_
                intro v' w2 hown hgrow hat
                obtain ⟨A', c', hv', _, _, _, _⟩ := wide_form hown
                subst hv'
                have i2 := HV7.is.fr ((Fr.refl (fun q => (Value.slice A3 L3.length c3).ownBlock = some q) w').grown hgrow fun _ hk => .inl hk) (fun hq => wide_is_ne HV7.o3 HV7.is (by decide) hq)
                obtain ⟨m0, m1, m2, m3⟩ := Te.four_cells i2
                have z3 := i2.frozen 3
                obtain ⟨V7, f7⟩ := Vr.put3 (x := lk3) HV7 hown hgrow hat
                refine tailv (n := 1) rfl rfl rfl (v := .pointer (some ⟨vb, 3, none⟩)) (w' := w2) (by go_simp) ?_
                refine tail1 rfl rfl rfl (w' := w2.setCell ⟨vb, 3, none⟩ (.slice A' (L3.length + 1) c')) (by go_simp) ?_
                simp only [List.setIfInBounds_toArray, List.set_cons_succ, List.set_cons_zero]
                clear m0 m1 m2 m3 z3 i2 hown hgrow hrd iab hbs hat
                have F7 : Fr (fun q => q = vb ∨ (Value.slice A3 L3.length c3).ownBlock = some q) w4 (w2.setCell ⟨vb, 3, none⟩ (.slice A' (L3.length + 1) c')) := (((Fr.refl (fun _ => False) w4).drew.trans hf fun _ _ h => h).mono fun _ _ h => h.elim).trans f7 fun _ _ h => h
                clear f7 hf HV7
                generalize w2.setCell ⟨vb, 3, none⟩ (.slice A' (L3.length + 1) c') = W5 at *
                have hin : ∀ q, (q = vb ∨ (Value.slice A3 L3.length c3).ownBlock = some q) → w.heap.size ≤ q ∧ q < wa.heap.size ∧ q ≠ sb ∧ q ≠ rb := fun q hq => HIN.out q hq
                have htn := HTN.out
                have HX7 := Lib.hid (HX.out.off F7 (HOFF.out.1.mono fun q hq => ⟨(hin q hq).1, (hin q hq).2.1⟩))
                have HY7 := Lib.hid (HY.out.off F7 (HOFF.out.2.mono fun q hq => ⟨(hin q hq).1, (hin q hq).2.1⟩))
                have HTB7 := Lib.hid (HTB.out.fr F7 fun hq => by have := (hin _ hq).2.1; omega)
                have HHB7 := Lib.hid (HHB.out.fr F7 fun hq => by have := (hin _ hq).2.1; omega)
                have HRB7 := Lib.hid (HRB.out.fr F7 fun hq => (hin _ hq).2.2.2 rfl)
                have HSB7 := Lib.hid (HSB.out.fr F7 fun hq => (hin _ hq).2.2.1 rfl)
                have HFW7 := Lib.hid (HFW.out.trans F7 fun q hq h => by have := (hin q h).1; omega)
                have HV7 := Lib.hid V7
                clear HX HY HTB HHB HRB HFW HV V7 F7 hin htn HSB hab
                have HX := HX7
                have HY := HY7
                have HTB := HTB7
                have HHB := HHB7
                have HRB := HRB7
                have HFW := HFW7
                have HV := HV7
                have HSB := HSB7
                clear HX7 HY7 HTB7 HHB7 HRB7 HFW7 HV7 HSB7
                go_wp2_with fail
                go_roundw
                case rel => exact ⟨i + 1, _, by omega, by go_num, by rw [HO.out]; exact HV.out, HRB.out, HFW.out⟩
                case measure => simp [intOf]; omega
            · have hie : i = C.sg.length := by omega
              subst hie
              have hii : ¬ (C.sg.length : Int) < (C.sg.length : Int) := by omega
              rw [HR3.out] at hv
              obtain ⟨a0, b0, hq0, _, _, _, _⟩ := wide_form hv.o0
              obtain ⟨a1, b1, hq1, _, _, _, _⟩ := wide_form hv.o1
              obtain ⟨a2, b2, hq2, _, _, _, _⟩ := wide_form hv.o2
              obtain ⟨a3, b3, hq3, _, _, _, _⟩ := wide_form hv.o3
              subst hq0 hq1 hq2 hq3
              obtain ⟨m0, m1, m2, m3⟩ := Te.four_cells hv.is
              obtain ⟨n0, n1, n2, n3⟩ := Te.four_cells hrb
              have z0 := hrb.frozen 0
              have z1 := hrb.frozen 1
              have z2 := hrb.frozen 2
              have z3 := hrb.frozen 3
              have i7 := Te.put4_is hrb (.slice a0 R0.length b0) (.slice a1 R1.length b1) (.slice a2 R2.length b2) (.slice a3 R3.length b3)
              have f7 := Te.put4_fr wr rb (.slice a0 R0.length b0) (.slice a1 R1.length b1) (.slice a2 R2.length b2) (.slice a3 R3.length b3)
              have V7 := hv.fr1 hrb (by have := HVB.out; omega) f7
              have F7 := fr.trans f7 fun q hq e => by have := HVB.out; omega
              have HV7 := Lib.hid V7
              have HF7 := Lib.hid F7
              clear V7 F7 f7 hv hrb fr HJ HC HZ HSO KS
              go_wp2_with fail
              unfold Te.World.put4 at i7 HV7 HF7
              generalize World.setCell _ ⟨rb, 3, none⟩ _ = W at *
              clear m0 m1 m2 m3 n0 n1 n2 n3 z0 z1 z2 z3
              obtain ⟨m0, m1, m2, m3⟩ := Te.four_cells i7
              exact bodyPost_ret (v := .agg #[.slice a0 R0.length b0, .slice a1 R1.length b1, .slice a2 R2.length b2, .slice a3 R3.length b3]) (by simp [results, Try.results22, go_sem, m0, m1, m2, m3]) rfl ⟨vb, _, _, _, _, rfl, HV7.out, HF7.out⟩
end Go.Proofs.Ytfmhfngilimhjaa.Im

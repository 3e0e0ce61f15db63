/- The walk of TeleEach. -/
import Derived.Test.YtmohefkingnknaaTidx
import Derived.Test.YtmohefkingnknaaTnext
namespace Go.Proofs.Ytmohefkingnknaa.Te
open Go.RowKit

def Cf.arr (C : Cf) : Array Value := #[.slice C.A1 C.l.length C.c1, .slice C.A2 C.n2 C.c2, .slice C.A3 C.sg.length C.c3, .slice C.A4 C.cr.length C.c4, .slice C.A5 C.n5 C.c5, .int .i64 C.t.age, .int .i64 C.t.brake, .int .i64 C.t.hold, .int .i64 C.t.budget]
theorem nine_cells {w : World} {b : Nat} {t : TypeId} {a0 a1 a2 a3 a4 a5 a6 a7 a8 : Value} (h : Is w b t #[a0, a1, a2, a3, a4, a5, a6, a7, a8]) : w.cell? ⟨b, 0, none⟩ = some a0 ∧ w.cell? ⟨b, 1, none⟩ = some a1 ∧ w.cell? ⟨b, 2, none⟩ = some a2 ∧ w.cell? ⟨b, 3, none⟩ = some a3 ∧ w.cell? ⟨b, 4, none⟩ = some a4 ∧ w.cell? ⟨b, 5, none⟩ = some a5 ∧ w.cell? ⟨b, 6, none⟩ = some a6 ∧ w.cell? ⟨b, 7, none⟩ = some a7 ∧ w.cell? ⟨b, 8, none⟩ = some a8 :=
  ⟨(h.cell 0).trans rfl, (h.cell 1).trans rfl, (h.cell 2).trans rfl, (h.cell 3).trans rfl, (h.cell 4).trans rfl, (h.cell 5).trans rfl, (h.cell 6).trans rfl, (h.cell 7).trans rfl, (h.cell 8).trans rfl⟩

theorem nodup_take {l : List Int} (h : l.Nodup) {i : Nat} (hi : i < l.length) : l[i] ∉ l.take i := by
  have e : l = l.take i ++ l[i] :: l.drop (i + 1) := by rw [← List.drop_eq_getElem_cons hi, List.take_append_drop]
  rw [e] at h
  intro hm
  exact (List.nodup_append.1 h).2.2 _ hm _ List.mem_cons_self rfl
set_option maxRecDepth 100000 in
set_option maxHeartbeats 4000000 in
theorem each_walk (C : Cf) (w : World) (hC : C.Ok w) :
    Calls Try.prog 7 #[C.val] w fun e w' => e = .returned (.bool true) ∧ Below w.heap.size w w' := by
  have KL := fun W => lives_any W
  have KH := fun (W : World) (k : C.Ok W) (j : Nat) => shape_any k (j : Int)
  have hb1 := hC.b1
  have hb3 := hC.b3
  have hb4 := hC.b4
  have hbs : ∀ k : Nat, (idx (sgB C.l (k : Int)) 0 C.sg).length ≤ 17592186044416 := fun k => Nat.le_trans (idx_le _ _ _) hb3
  have hbc : ∀ k : Nat, (idx (hasB C.l (k : Int)) 0 C.cr).length ≤ 17592186044416 := fun k => Nat.le_trans (idx_le _ _ _) hb4
  have hbp : ∀ k : Nat, (idx (ptB (k : Int)) 0 C.l).length ≤ 17592186044416 := fun k => Nat.le_trans (idx_le _ _ _) hb1
  have hs4 : sumN (fun k => (idx (sgB C.l (k : Int)) 0 C.sg).length) 4 ≤ C.sg.length := sum_le (fun x : Sg => ocAt C.l x.sec) (fun x : Sg => thereB C.l x.sec) (fun k => sgB C.l (k : Int)) C.sg (fun k x => has_split C.l k x.sec)
  have hc4 : sumN (fun k => (idx (hasB C.l (k : Int)) 0 C.cr).length) 4 ≤ C.cr.length := sum_le (fun x : Int => ocAt C.l x) (fun x : Int => thereB C.l x) (fun k => hasB C.l (k : Int)) C.cr (fun k x => has_split C.l k x)
  have hp4 : sumN (fun k => (idx (ptB (k : Int)) 0 C.l).length) 4 = (C.l.filter wantB).length := sum_four (fun x : Sec => x.oc) (fun x : Sec => decide (x.kind = 1)) (fun k => ptB (k : Int)) C.l (fun k x => rfl)
  have hsu := sumN_le (f := fun k => (idx (sgB C.l (k : Int)) 0 C.sg).length) hbs
  have hcu := sumN_le (f := fun k => (idx (hasB C.l (k : Int)) 0 C.cr).length) hbc
  have hpu := sumN_le (f := fun k => (idx (ptB (k : Int)) 0 C.l).length) hbp
  have fb := (Fr.refl (fun _ => False) w).alloc (.cells C.arr 55)
  have ih : Is (w.alloc (.cells C.arr 55)) w.heap.size 55 C.arr := Is.new _ _ _
  have HC := Lib.hid hC
  have HS4 := Lib.hid hs4
  have HC4 := Lib.hid hc4
  have HP4 := Lib.hid hp4
  have HSU := Lib.hid hsu
  have HCU := Lib.hid hcu
  have HPU := Lib.hid hpu
  have HBS := Lib.hid hbs
  have HBC := Lib.hid hbc
  have HBP := Lib.hid hbp
  have HFB := Lib.hid fb
  have HIH := Lib.hid ih
  have hl9 : (C.l.length : Int) ≤ 17592186044416 := by omega
  have hmk := fun W => mk_ints C.l.length (by omega) W
  clear hC hb1 hb3 hb4 hbs hbc hbp hs4 hc4 hp4 hsu hcu hpu fb ih
  obtain ⟨A1, c1, l, A2, n2, c2, A3, c3, sg, A4, c4, cr, A5, n5, c5, ⟨ta, tb, th, tu⟩⟩ := C
  unfold Cf.val Cf.cells Cf.arr at *
  simp only at *
  go_enter Try.func7, Try.ntmps7
  go_wp2_with fail
  generalize w.alloc _ = w0 at *
  refine (KL w0).mono ?_
  rintro e w1 ⟨rfl, f1⟩
  have HI1 := Lib.hid (HIH.out.fr f1 id)
  have HF1 := Lib.hid (fr_nil HFB.out f1)
  obtain ⟨p0, p1, p2, p3, p4, p5, p6, p7, p8⟩ := nine_cells HI1.out
  clear f1 HIH HFB KL
  go_wp2_with fail
  have is0 : Is (w1.alloc (.cells (Array.replicate l.length (Value.int .i64 0)) 3)) w1.heap.size 3 ((seenL l 0 []).map (Value.int .i64)).toArray := by
    rw [seen_zero, List.map_replicate, List.toArray_replicate]
    exact Is.new _ _ _
  have HI2 := Lib.hid (HI1.out.alloc (.cells (Array.replicate l.length (Value.int .i64 0)) 3))
  have HF2 := Lib.hid (HF1.out.alloc (.cells (Array.replicate l.length (Value.int .i64 0)) 3))
  have hrb : w.heap.size < w1.heap.size := HI1.out.lt
  clear p0 p1 p2 p3 p4 p5 p6 p7 p8 HI1 HF1 hmk
  generalize w1.alloc (.cells (Array.replicate l.length (Value.int .i64 0)) 3) = w2 at *
  generalize w1.heap.size = rb at *
  have HIS0 := Lib.hid is0
  clear is0
  go_loopw [4, 5, 6, 7] (fun v4 v5 v6 v7 wr => ∃ j : Nat, j ≤ 4 ∧ v7 = .int .i64 (j : Nat) ∧ v4 = .int .i64 (sumN (fun k => (idx (sgB l (k : Int)) 0 sg).length) j : Nat) ∧ v5 = .int .i64 (sumN (fun k => (idx (hasB l (k : Int)) 0 cr).length) j : Nat) ∧ v6 = .int .i64 (sumN (fun k => (idx (ptB (k : Int)) 0 l).length) j : Nat) ∧ Is wr rb 3 ((seenL l j []).map (Value.int .i64)).toArray ∧ Fr (fun q => q = rb) w2 wr) (fun _ _ _ i _ => 4 - (intOf i).toNat)
  case atStart => exact ⟨0, Nat.zero_le _, rfl, rfl, rfl, rfl, HIS0.out, Fr.refl _ _⟩
  case round =>
    clear HIS0
    obtain ⟨j, hj, rfl, rfl, rfl, rfl, is, F⟩ := hrel
    have Fw : Fr (fun _ => False) w wr := HF2.out.trans F (fun q hq e => by omega)
    have HI := Lib.hid (HI2.out.fr F (by omega))
    have HIS := Lib.hid is
    have HF := Lib.hid F
    have HFW := Lib.hid Fw
    obtain ⟨p0, p1, p2, p3, p4, p5, p6, p7, p8⟩ := nine_cells HI.out
    clear is F Fw
    by_cases hj4 : j < 4
    · have KX := KH wr (HC.out.fr HFW.out) j
      have hT : shL ⟨A1, c1, l, A2, n2, c2, A3, c3, sg, A4, c4, cr, A5, n5, c5, ⟨ta, tb, th, tu⟩⟩ (j : Int) = ⟨idx (inB (j : Int)) 0 l, idx (ptB (j : Int)) 0 l, idx (hasB l (j : Int)) 0 cr, idx (sgB l (j : Int)) 0 sg⟩ := rfl
      rw [hT] at KX
      have hbsj := HBS.out j
      have hbcj := HBC.out j
      have hbpj := HBP.out j
      have usj := HSU.out j
      have ucj := HCU.out j
      have upj := HPU.out j
      have us1 : sumN (fun k => (idx (sgB l (k : Int)) 0 sg).length) (j + 1) = sumN (fun k => (idx (sgB l (k : Int)) 0 sg).length) j + (idx (sgB l (j : Int)) 0 sg).length := rfl
      have uc1 : sumN (fun k => (idx (hasB l (k : Int)) 0 cr).length) (j + 1) = sumN (fun k => (idx (hasB l (k : Int)) 0 cr).length) j + (idx (hasB l (j : Int)) 0 cr).length := rfl
      have up1 : sumN (fun k => (idx (ptB (k : Int)) 0 l).length) (j + 1) = sumN (fun k => (idx (ptB (k : Int)) 0 l).length) j + (idx (ptB (j : Int)) 0 l).length := rfl
      have US1 := Lib.hid us1
      have UC1 := Lib.hid uc1
      have UP1 := Lib.hid up1
      clear us1 uc1 up1 hT
      generalize sumN (fun k => (idx (sgB l (k : Int)) 0 sg).length) j = xs at *
      generalize sumN (fun k => (idx (hasB l (k : Int)) 0 cr).length) j = xc at *
      generalize sumN (fun k => (idx (ptB (k : Int)) 0 l).length) j = xp at *
      have hsum1 : (xs : Int) + ((idx (sgB l (j : Int)) 0 sg).length : Int) ≤ 140737488355328 := by omega
      have hsum2 : (xc : Int) + ((idx (hasB l (j : Int)) 0 cr).length : Int) ≤ 140737488355328 := by omega
      have hsum3 : (xp : Int) + ((idx (ptB (j : Int)) 0 l).length : Int) ≤ 140737488355328 := by omega
      clear hbsj hbcj hbpj usj ucj upj
      go_wp2_with fail
      refine KX.mono ?_
      rintro e w3 ⟨⟨⟨X0, y0, z0⟩, ⟨X1, y1, z1⟩, ⟨X2, y2, z2⟩, ⟨X3, y3, z3⟩⟩, rfl, hst, ok, hnew, f3⟩
      simp only [Sta.val]
      unfold Sta.st at hst
      injection hst with h0 h1 h2 h3
      simp only at h0 h1 h2 h3
      rw [← h3] at hsum1 US1
      rw [← h2] at hsum2 UC1
      rw [← h1] at hsum3 UP1
      have HIS4 := Lib.hid ((HIS.out.fr f3 id).alloc (.cells #[.slice X0 y0.length z0, .slice X1 y1.length z1, .slice X2 y2.length z2, .slice X3 y3.length z3] 24))
      have HI4 := Lib.hid ((HI.out.fr f3 id).alloc (.cells #[.slice X0 y0.length z0, .slice X1 y1.length z1, .slice X2 y2.length z2, .slice X3 y3.length z3] 24))
      have IB4 := Lib.hid (Is.new w3 24 #[.slice X0 y0.length z0, .slice X1 y1.length z1, .slice X2 y2.length z2, .slice X3 y3.length z3])
      have HF4 := Lib.hid ((HF.out.trans (f3.mono fun _ _ h => h.elim) fun _ _ h => h).alloc (.cells #[.slice X0 y0.length z0, .slice X1 y1.length z1, .slice X2 y2.length z2, .slice X3 y3.length z3] 24))
      have HFW4 := Lib.hid ((fr_nil HFW.out f3).alloc (.cells #[.slice X0 y0.length z0, .slice X1 y1.length z1, .slice X2 y2.length z2, .slice X3 y3.length z3] 24))
      have hrd4 := ok.occ.rd.fr ((Fr.refl (fun _ => False) w3).alloc (.cells #[.slice X0 y0.length z0, .slice X1 y1.length z1, .slice X2 y2.length z2, .slice X3 y3.length z3] 24)) fun _ _ => id
      have hlt4 : ∀ q, blk X0 = some q → 0 < y0.length → q ≠ rb := fun q hq h0 e => by
        have a := hnew.1 q hq
        have b := HIS.out.lt
        omega
      have hbr : w3.heap.size ≠ rb := by
        have b := (HIS.out.fr f3 id).lt
        omega
      have hy9 : y0.length ≤ 17592186044416 := ok.occ.le
      obtain ⟨g0, g1, g2, g3⟩ := four_cells IB4.out
      have HRD4 := Lib.hid hrd4
      have H0 := Lib.hid h0
      have hy99 : (y0.length : Int) ≤ 17592186044416 := by omega
      clear f3 HIS HI HF HFW ok hnew h0 h1 h2 h3 hrd4 hy9 KX
      go_wp2_with fail
      clear p0 p1 p2 p3 p4 p5 p6 p7 p8 g0 g1 g2 g3
      generalize w3.alloc (.cells #[.slice X0 y0.length z0, .slice X1 y1.length z1, .slice X2 y2.length z2, .slice X3 y3.length z3] 24) = w4 at *
      generalize hbb : w3.heap.size = bb at *
      clear hbb
      go_loopw [31] (fun v31 wq => ∃ i : Nat, i ≤ y0.length ∧ v31 = .int .i64 (i : Nat) ∧ Is wq rb 3 ((seenL l j (y0.take i)).map (Value.int .i64)).toArray ∧ Fr (fun q => q = rb) w4 wq) (fun i _ => y0.length - (intOf i).toNat)
      case atStart => exact ⟨0, Nat.zero_le _, rfl, HIS4.out, Fr.refl _ _⟩
      case round =>
        obtain ⟨i, hi, rfl, is, F⟩ := hrel
        have HI5 := Lib.hid (HI4.out.fr F (by omega))
        have IB5 := Lib.hid (IB4.out.fr F hbr)
        have Fw5 : Fr (fun _ => False) w wr := HFW4.out.trans F (fun q hq e => by omega)
        by_cases hlt : i < y0.length
        · obtain ⟨ga, oa, hX, _, q0⟩ := rd_int (HRD4.out.fr F fun q hq e => hlt4 q hq (by omega) e) hlt
          obtain ⟨k, hk, hx, hin⟩ := (idx_mem (inB (j : Int)) l 0 y0[i]).1 (by rw [← H0.out]; exact List.getElem_mem hlt)
          have hoc : l[k].oc = (j : Int) := by simpa [inB] using hin
          have hnd : y0[i] ∉ y0.take i := nodup_take (by rw [H0.out]; exact idx_nodup _ _ _) hlt
          have hx' : y0[i] = ((k : Nat) : Int) := by rw [hx]; congr 1; omega
          have hts : y0.take (i + 1) = y0.take i ++ [((k : Nat) : Int)] := by rw [List.take_succ_eq_append_getElem hlt, hx']
          rw [hx'] at q0 hnd
          obtain ⟨gs, os, hA, _, c0, c1q, c2q⟩ := rd_sec (HC.out.fr Fw5).secs hk
          simp only at hA
          subst hA
          rw [hoc] at c1q
          have hc0 : wr.cell? ⟨rb, k, none⟩ = some (.int .i64 0) := by
            rw [is.cell k]
            have := seen_here hk hoc hnd
            simpa using this
          have hz0 := is.frozen k
          have his1 := is.set k (.int .i64 1)
          have harr : ((seenL l j (y0.take i)).map (Value.int .i64)).toArray.setIfInBounds k (.int .i64 1) = ((seenL l j (y0.take (i + 1))).map (Value.int .i64)).toArray := by
            rw [hts, ← seen_set hk hoc, List.map_set, List.setIfInBounds_toArray]
          rw [harr] at his1
          have hF6 : Fr (fun q => q = rb) w4 (wr.setCell ⟨rb, k, none⟩ (.int .i64 1)) := F.setCell (p := ⟨rb, k, none⟩) (.inl rfl) _
          have HIS1 := Lib.hid his1
          have HF6 := Lib.hid hF6
          have hsl : k < (seenL l j []).length := by rw [seen_len]; exact hk
          obtain ⟨p0, p1, p2, p3, p4, p5, p6, p7, p8⟩ := nine_cells HI5.out
          have hjj : (((j : Nat) : Int) != ((j : Nat) : Int)) = false := by simp
          subst hX
          clear harr his1 hF6 hts hx hx' hnd hin is F Fw5 hoc c0 c2q
          go_wp2_with fail
          go_roundw
          case rel => exact ⟨i + 1, by omega, by go_num, HIS1.out, HF6.out⟩
          case measure => simp [intOf]; omega
        · have hil : i = y0.length := by omega
          rw [hil, List.take_length, H0.out, seen_next] at is
          have HIS5 := Lib.hid is
          have HF5 := Lib.hid ((HF4.out.trans F fun _ _ h => h))
          obtain ⟨g0, g1, g2, g3⟩ := four_cells IB5.out
          clear is F hil Fw5
          go_wp2_with fail
          go_roundw
          case rel => exact ⟨j + 1, by omega, by go_num, by rw [US1.out]; go_num, by rw [UC1.out]; go_num, by rw [UP1.out]; go_num, HIS5.out, HF5.out⟩
          case measure => simp [intOf]; omega
    · have hje : j = 4 := by omega
      subst hje
      go_wp2_with fail
      clear p0 p1 p2 p3 p4 p5 p6 p7 p8
      go_loopw [11, 79] (fun v11 v79 wq => ∃ s : Nat, s ≤ l.length ∧ v79 = .int .i64 (s : Nat) ∧ v11 = .int .i64 (((l.take s).filter wantB).length : Nat) ∧ Fr (fun _ => False) wr wq) (fun _ i _ => l.length - (intOf i).toNat)
      case atStart => exact ⟨0, Nat.zero_le _, rfl, rfl, Fr.refl _ _⟩
      case round =>
        obtain ⟨s, hs, rfl, rfl, F⟩ := hrel
        by_cases hlt : s < l.length
        · obtain ⟨gs, os, hA, _, c0, c1q, c2q⟩ := rd_sec (HC.out.fr (fr_nil HFW.out F)).secs hlt
          simp only at hA
          subst hA
          have seen0 := (HIS.out.fr F id).alloc (.cells #[.int .i64 l[s].kind, .int .i64 l[s].oc, .int .i64 l[s].line] 60)
          have hseen := seen0.cell s
          rw [show ((seenL l 4 []).map (Value.int .i64)).toArray[s]? = some (.int .i64 (cnt l[s].oc 4)) by simp [List.getElem?_map, seen_at 4 [] hlt]] at hseen
          have HF5 := Lib.hid (F.alloc (.cells #[.int .i64 l[s].kind, .int .i64 l[s].oc, .int .i64 l[s].line] 60))
          have IB := Is.new wr 60 #[.int .i64 l[s].kind, .int .i64 l[s].oc, .int .i64 l[s].line]
          have hsl : s < (seenL l 4 []).length := by rw [seen_len]; exact hlt
          have htk : ((l.take (s + 1)).filter wantB).length = ((l.take s).filter wantB).length + if wantB l[s] = true then 1 else 0 := by
            rw [List.take_succ_eq_append_getElem hlt, List.filter_append, List.length_append]
            by_cases hw : wantB l[s] = true
            · rw [if_pos hw, List.filter_cons_of_pos hw]; rfl
            · rw [if_neg hw, List.filter_cons_of_neg hw]; rfl
          have hle : (((l.take s).filter wantB).length : Int) ≤ 17592186044416 := by
            have := List.length_filter_le wantB (l.take s)
            rw [List.length_take] at this
            omega
          have HTK := Lib.hid htk
          generalize ((l.take s).filter wantB).length = m at *
          obtain ⟨g0, g1, g2⟩ := three6 IB
          clear seen0 IB htk F
          generalize l[s] = x at *
          by_cases h0 : 0 ≤ x.oc
          · by_cases h4 : x.oc < 4
            · have ec : cnt x.oc 4 = 1 := by unfold cnt; rw [if_pos ⟨h0, by omega⟩]
              rw [ec] at hseen
              by_cases hk : x.kind = 1
              · have hw : wantB x = true := by simp [wantB, h0, h4, hk]
                have ek : (x.kind == 1) = true := by simpa using hk
                have hm := HTK.out
                rw [if_pos hw] at hm
                clear hw hk ec
                go_wp2_with fail
                go_roundw
                case rel => exact ⟨s + 1, by omega, by go_num, by rw [hm]; go_num, HF5.out⟩
                case measure => simp [intOf]; omega
              · have hw : ¬ wantB x = true := by simp [wantB, hk]
                have ek : (x.kind == 1) = false := by simpa using hk
                have hm := HTK.out
                rw [if_neg hw] at hm
                clear hw hk ec
                go_wp2_with fail
                go_roundw
                case rel => exact ⟨s + 1, by omega, by go_num, by rw [hm]; rfl, HF5.out⟩
                case measure => simp [intOf]; omega
            · have ec : cnt x.oc 4 = 0 := by unfold cnt; rw [if_neg (by omega)]
              rw [ec] at hseen
              have hw : ¬ wantB x = true := by simp [wantB, h4]
              have hm := HTK.out
              rw [if_neg hw] at hm
              clear hw ec
              go_wp2_with fail
              go_roundw
              case rel => exact ⟨s + 1, by omega, by go_num, by rw [hm]; rfl, HF5.out⟩
              case measure => simp [intOf]; omega
          · have ec : cnt x.oc 4 = 0 := by unfold cnt; rw [if_neg (by omega)]
            rw [ec] at hseen
            have hw : ¬ wantB x = true := by simp [wantB, h0]
            have hm := HTK.out
            rw [if_neg hw] at hm
            clear hw ec
            go_wp2_with fail
            go_roundw
            case rel => exact ⟨s + 1, by omega, by go_num, by rw [hm]; rfl, HF5.out⟩
            case measure => simp [intOf]; omega
        · have hsl : s = l.length := by omega
          rw [hsl, List.take_length]
          have hp := HP4.out
          have hq1 := HS4.out
          have hq2 := HC4.out
          have up := HPU.out 4
          obtain ⟨p0, p1, p2, p3, p4, p5, p6, p7, p8⟩ := nine_cells (HI.out.fr F (by simp))
          have HFE := Lib.hid (fr_nil HFW.out F)
          try simp only at hp hq1 hq2
          rw [hp]
          generalize (l.filter wantB).length = m at *
          generalize sumN (fun k => (idx (sgB l (k : Int)) 0 sg).length) 4 = xs at *
          generalize sumN (fun k => (idx (hasB l (k : Int)) 0 cr).length) 4 = xc at *
          have e1 : ((m : Int) == (m : Int)) = true := by simp
          have e2 : (xs : Int) ≤ (sg.length : Int) := by omega
          have e3 : (xc : Int) ≤ (cr.length : Int) := by omega
          clear hp hq1 hq2 up F
          go_wp2_with fail
          go_ret
          exact ⟨rfl, HFE.out.toBelow0⟩
end Go.Proofs.Ytmohefkingnknaa.Te
